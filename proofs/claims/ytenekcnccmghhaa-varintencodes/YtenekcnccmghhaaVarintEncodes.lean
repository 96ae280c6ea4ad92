/- For every list of numbers: Encode and Size answer as the reference. No condition. -/
import Derived.Test.YtenekcnccmghhaaHead02
import Derived.Test.YtenekcnccmghhaaSame
import Derived.Test.YtenekcnccmghhaaRenc
import Derived.SizedLaws
import Derived.ChangeOld
namespace Go.Proofs.Ytenekcnccmghhaa.varintEncodes
open Go.ChangeShapes Go.WideShapes Go.ChangeAt Go.RowKit
set_option linter.unusedVariables false
theorem renc_call (u : Nat) (w : World) (h : u ≤ 18446744073709551615) :
    Calls Try.prog 5 #[.int .u64 u] w fun e w' => ∃ a cap, e = .returned (.slice a (enc u).length cap) ∧ Bytes w' a (enc u) ∧ Below w.heap.size w w' := by
  refine (renc_any 9 u w h (lt_pow10 u h)).mono ?_
  rintro e w' ⟨v, rfl, ho, hb⟩
  obtain ⟨a, cap, rfl, hby⟩ := ho.slice
  exact ⟨a, cap, rfl, hby, hb⟩
theorem enc_call (u : Nat) (w : World) (h : u ≤ 18446744073709551615) :
    Calls Try.prog 7 #[.int .u64 u] w fun e w' => ∃ a cap, e = .returned (.slice a (enc u).length cap) ∧ Bytes w' a (enc u) ∧ Below w.heap.size w w' := by
  refine (encode_any u w h).mono ?_
  rintro e w' ⟨v, rfl, ho, hb⟩
  obtain ⟨a, cap, rfl, hby⟩ := ho.slice
  exact ⟨a, cap, rfl, hby, hb⟩
set_option maxRecDepth 20000 in
set_option maxHeartbeats 2000000 in
theorem walk (l : List Nat) (a : Option Addr) (cap : Nat) (w : World) (hb : Nums w a l) (hc : Came w a l.length cap 8) :
    Calls Try.prog 3 #[.slice a l.length cap] w fun e w' => e = .returned (.bool true) ∧ Below w.heap.size w w' := by
  obtain ⟨hf, hr, hn⟩ := hc
  obtain ⟨hby, rfl | ⟨b, off, rfl, hlt, hcell⟩⟩ := hb
  · clear hby hn
    go_enter Try.func3, Try.ntmps3
    go_wp2_with (go_at_call 4; refine (head02_any w).mono ?_; rintro e w1 ⟨rfl, hb1⟩)
    refine wp_loop_rounds 1 ?_
    rw [rounds_succ]
    go_wp2
    go_ret
    exact ⟨rfl, hb1⟩
  · have HBY : Hid (∀ i, l.getD i 0 < 18446744073709551616) := hby
    have HCELL : Hid (∀ i, i < l.length → w.cell? ⟨b, off + i, none⟩ = some (.int .u64 (l.getD i 0 : Nat))) := hcell
    clear hby hcell hn
    go_enter Try.func3, Try.ntmps3
    go_wp2_with (go_at_call 4; refine (head02_any w).mono ?_; rintro e w1 ⟨rfl, hb1⟩)
    go_loopw [10] (fun i wr => ∃ k : Nat, k ≤ l.length ∧ i = .int .i64 k ∧ Below w.heap.size w wr) (fun i _ => l.length - (intOf i).toNat)
    case atStart => exact ⟨0, Nat.zero_le _, rfl, hb1⟩
    case round =>
      obtain ⟨k, hk, rfl, hbr⟩ := hrel
      by_cases hkl : k < l.length
      · have hc := HCELL.out k hkl
        rw [← hbr.cell (p := ⟨b, off + k, none⟩) hlt] at hc
        have hu := HBY.out k
        obtain ⟨u, hu2⟩ : ∃ u, u = l.getD k 0 := ⟨_, rfl⟩
        rw [← hu2] at hc hu
        clear hu2 HCELL HBY hb1
        have hu' : u ≤ 18446744073709551615 := by omega
        clear hu
        have hml : (enc u).length ≤ maxLen := by have := enc_length_le u hu'; unfold maxLen; omega
        go_wp2_with (first
          | (go_at_call 5; refine (renc_call u _ hu').mono ?_; rintro e w2 ⟨a2, cap2, rfl, hby2, hb2⟩)
          | (go_at_call 7; refine (enc_call u _ hu').mono ?_; rintro e w3 ⟨a3, cap3, rfl, hby3, hb3⟩)
          | (go_at_call 6; refine (same_at (enc u) (enc u) _ _ _ _ _ _ _ rfl rfl hby3 (hby2.keep hb3) hml hml).mono ?_; rw [decide_eq_true (rfl : enc u = enc u)]; rintro e w4 ⟨rfl, nq, rfl⟩)
          | (go_at_call 8; refine (size_any u _ hu').mono ?_; rintro e w5 ⟨rfl, rfl⟩))
        go_roundw
        case rel => exact ⟨k + 1, by omega, by go_num, below_drewN (hbr.trans ((hb2.mono hbr.size).trans (hb3.mono (Nat.le_trans hbr.size hb2.size)))) nq⟩
        case measure => simp [intOf]; omega
      · go_wp2
        go_ret
        exact ⟨rfl, hbr⟩
theorem own : ownKnob Try.prog.godebug = none := by kernel_rfl
theorem laidOut : laidOutB Try.prog = true := by kernel_rfl
set_option maxRecDepth 100000 in
theorem contract (H : Type) (enc : TypeId × Value → H) (W : World) (base : Nat) (args : Array Value) (ds gs : List (DataW H)) (before : List MemPlace)
    (hval : ∀ (j : Nat) t v, Try.f3.params[j]? = some t → args[j]? = some v → Value.okWide Try.prog W .any base t v)
    (hW : DataW.Whole enc Try.prog Try.f3.params.toList Rows.varintEncodesSpec.vars false W args.toList ds gs before)
    (hsz : (DataW.weightsEach Try.prog (Try.f3.params.toList ++ Rows.varintEncodesSpec.plain.varTypes Try.prog) (ds ++ gs)).all (· ≤ reachBytes) = true) :
    Calls Try.prog 3 args W fun e W' => ∃ v, e = .returned v ∧ Rows.varintEncodesSpec.post enc Try.prog Try.f3 false true false false W args v W' := by
  have hW' := hW
  obtain ⟨p, q, hA0, hV, rfl, hfz, hnd⟩ := hW
  have hA : DataW.TrodAll enc Try.prog W 0 (fun _ => true) true Try.f3.params.toList args.toList ds p := hA0
  rw [Try.params3] at hA hval hsz
  obtain ⟨v0, vs0, d0, ds0, p0, q0, hargs, rfl, rfl, h0, r0⟩ := trodAll_cons hA
  obtain ⟨rfl, rfl, rfl⟩ := trodAll_nil r0
  obtain rfl : args = #[v0] := by cases args; simp_all
  obtain ⟨rfl, rfl⟩ := trodVars_none hV
  obtain ⟨a0, len0, cap0, rfl⟩ := okWide_slice Try.underlying22 (hval 0 22 v0 rfl rfl)
  have k0 := h0
  have lt0 : ∀ x ∈ p0, x.block < W.heap.size := by obtain ⟨m, hm⟩ := k0; exact DataW.trod_lt m _ _ _ hm
  obtain ⟨l0, hlen0, w0, c0⟩ : ∃ l : List Nat, l.length = len0 ∧ Nums W a0 l ∧ Came W a0 len0 cap0 8 := by
    obtain ⟨fuel, hf⟩ := h0
    rcases open_ints Try.underlying22 Try.underlying24 (by kernel_rfl) hf with ⟨hcs, hx⟩ | ⟨x, l, c, zs, hcs, _, hl, hm, hz, hx, hcell, hwz⟩
    · simp [Value.cells] at hcs
      obtain ⟨rfl, rfl, rfl⟩ := hcs
      exact ⟨[], rfl, ⟨by simp, .inl rfl⟩, ⟨Nat.le_refl _, by simp, fun _ => rfl⟩⟩
    · simp [Value.cells] at hcs
      obtain ⟨rfl, rfl, rfl⟩ := hcs
      have hz2 : zs.length = cap0 := by simpa using hz
      obtain ⟨ll, e1, e2, e3⟩ := row_nats .u64 18446744073709551616 (by decide) wf_u64 W x zs len0 (by omega) hcell hwz
      have hd : d0 = .slice (lits .u64 (zs.take len0)) (lits .u64 (zs.drop len0)) := (Prod.mk.inj hx).1
      have hreach : cap0 * 8 ≤ 140737488351232 := by
        have := sized_slice hsz (j := 0) (t := 22) (e := 24) rfl (by rw [hd]; rfl) Try.underlying22
        rw [show Try.prog.bytesOf 24 = 8 from by kernel_rfl] at this
        simp only [lits, List.length_map, List.length_take, List.length_drop, reachBytes] at this
        have hmin : min len0 zs.length = len0 := Nat.min_eq_left (by omega)
        rw [hmin] at this
        have hcap : len0 + (zs.length - len0) = cap0 := by omega
        rw [hcap] at this
        exact this
      exact ⟨ll, e1, ⟨e2, e3⟩, ⟨hl, hreach, fun h => by cases h⟩⟩
  subst hlen0
  clear hA0
  refine (walk l0 a0 cap0 W w0 c0).mono fun e W' ⟨he, bel⟩ => ?_
  subst he
  exact ⟨_, rfl, _, _, _, [], _, [], hW', trodAll_mk1 (shut_bool Try.underlying4 _), (trodAll_cons_mk (Below.trod laidOut (by kernel_rfl) (of_decide_eq_true (by kernel_rfl)) k0 bel lt0) trodAll_mk0), rfl, bel.frame _, fun h => by cases h⟩
set_option maxRecDepth 100000 in
theorem lifted (os : Os) (started : os.Started) (H : Type) (enc : TypeId × Value → H) :
    ReturnsInHanded {} Try.checked os 3 .any (Rows.varintEncodesSpec.pre6 enc Try.prog Try.f3 Rows.varintEncodesRow.domain false) (Rows.varintEncodesSpec.post enc Try.prog Try.f3 false true false false) := by
  refine returnsInHanded_of_change_sized (C := Try.checked) own started (by kernel_rfl) Try.func3
    (ChangeSpec.witness6 (enc := enc) (C := Try.checked) false ⟨#[], #[.slice none 0 0], []⟩ 8 (by kernel_rfl) (by kernel_rfl) (by kernel_rfl) (by kernel_rfl)) ?_
  intro W base args ds gs before hval hW _ hsz _
  exact contract H enc W base args ds gs before hval hW hsz
theorem over : Rows.varintEncodesRow.holds Try.pinned (OpenSpec.ofChange Rows.varintEncodesSpec) :=
  OpenClaim.holds_of_wide 3 Try.f3 rfl rfl rfl rfl rfl rfl rfl ⟨rfl, rfl, rfl, rfl, rfl⟩ rfl rfl rfl rfl rfl (by kernel_rfl) Try.func3 (by kernel_rfl)
    (of_decide_eq_true (by kernel_rfl)) (by unfold Func.isWrapper; first | (rw [if_pos (by decide +kernel)]; kernel_rfl) | (rw [if_neg (by decide +kernel)]; exact ⟨rfl, rfl⟩))
    (fun os started H enc _ => lifted os started H enc)
theorem proved : Rows.VarintEncodesSaid := over
end Go.Proofs.Ytenekcnccmghhaa.varintEncodes
