/- For every list of bytes: what tlv.Decode reads is, written by tlv.Encode, the list again; what it refuses has no field, and a place within the list. No condition. -/
import Derived.Test.YtfaiebaipoohpaaTlq
import Derived.SizedLaws
import Derived.ChangeOld
namespace Go.Proofs.Ytfaiebaipoohpaa.tlvOneForm
open Go.ChangeShapes Go.WideShapes Go.ChangeAt Go.RowKit
set_option linter.unusedVariables false
set_option maxRecDepth 20000 in
set_option maxHeartbeats 1000000 in
theorem walk (l : List Nat) (a : Option Addr) (cap : Nat) (w : World) (hb : Bytes w a l) (hc : Came w a l.length cap 1) :
    Calls Try.prog 7 #[.slice a l.length cap] w fun r w' => r = .returned (.bool true) ∧ Below w.heap.size w w' := by
  have HB : Hid (Bytes w a l) := hb
  have hl : l.length ≤ 140737488351232 := by have h1 := hc.1; have h2 := hc.2; omega
  have hlm : l.length ≤ maxLen := by unfold maxLen; omega
  have HM : Hid (∀ x ∈ l, x < 256) := hb.mem
  obtain ⟨n, hn⟩ : ∃ n, l.length = n := ⟨_, rfl⟩
  have HN : Hid (l.length = n) := hn
  rw [hn] at hl hlm ⊢
  have hnI : (n : Int) ≤ 140737488351232 := by omega
  obtain ⟨fs, at0, e, hre⟩ : ∃ fs at0 e, recs l = (fs, at0, e) := ⟨_, _, _, rfl⟩
  have HR : Hid (recs l = (fs, at0, e)) := hre
  clear hb hc hn hre
  by_cases he : e = 0
  · subst he
    obtain ⟨r1, r2, r3, r4⟩ := recs_ok l HM.out (by rw [HR.out])
    rw [HR.out] at r1 r2 r3
    simp only at r1 r2 r3
    subst r1
    have HE : Hid (encs fs 0 [] = (l, 0) ∧ (∀ f ∈ fs, FRight f) ∧ fs.length ≤ 1024) := by
      have h := encs_len fs 0 [] l (fun f hf => (r3 f hf).1) r2
      exact ⟨r2, r3, by simp at h; omega⟩
    clear r2 r3 r4
    go_enter Try.func7, Try.ntmps7
    go_wp2_with (first
      | (go_at_call 9; refine (head05_any w).mono ?_; rintro r w1 ⟨rfl, hb1⟩; have HB1 : Hid (Below w.heap.size w w1) := hb1; clear hb1)
      | (go_at_call 16; have hcp := copy_any l a cap w1 (HB.out.keep HB1.out) (by rw [HN.out]; omega); rw [HN.out] at hcp; refine hcp.mono ?_; rintro r w2 ⟨v2, rfl, ho2, hb2⟩; obtain ⟨a2, cap2, rfl, hcap2, _, hby2, _⟩ := ho2.shape; rw [HN.out] at hcap2 ⊢; have HB2 : Hid (Below w.heap.size w w2) := HB1.out.trans (hb2.mono HB1.out.size); have HY2 : Hid (Bytes w2 a2 l) := hby2; clear hb2 ho2 hby2 hcp)
      | (go_at_call 18; refine (tdec l _ n _ _ HN.out HY2.out hcap2 hlm).mono ?_; unfold DecPost; rw [HR.out]; rintro r w3 ⟨v3, L3, rfl, hL3, hr3, hb3⟩; have HL3 : Hid (fs = L3.map Prod.fst) := hL3; obtain ⟨a3, cap3, rfl, hfs3⟩ := hr3.fs (fun p hp => by have h := HE.out.2.1 p.1 (by rw [HL3.out]; exact List.mem_map_of_mem hp); exact ⟨h.1, Nat.le_trans h.2.1 (by unfold maxLen; omega)⟩); have HB3 : Hid (Below w.heap.size w w3) := HB2.out.trans (hb3.mono HB2.out.size); have HF3 : Hid (FsAt w3 a3 L3) := hfs3; clear hL3 hr3 hb3 hfs3)
      | (go_at_call 12; refine (tenc L3 _ _ _ _ rfl HF3.out (by have h := HE.out.2.2; rw [HL3.out, List.length_map] at h; omega)).mono ?_; rw [← HL3.out, HE.out.1]; rintro r w4 ⟨v4, rfl, ho4, hb4⟩; obtain ⟨a4, cap4, rfl, _, _, hby4, _⟩ := ho4.shape; rw [HN.out]; have HB4 : Hid (Below w.heap.size w w4) := HB3.out.trans (hb4.mono HB3.out.size); have HY4 : Hid (Bytes w4 a4 l) := hby4; clear ho4 hb4 hby4)
      | (go_at_call 13; refine (same_at l l _ _ _ _ _ _ _ HN.out HN.out HY4.out (HB.out.keep HB4.out) (by rw [HN.out]; exact hlm) (by rw [HN.out]; exact hlm)).mono ?_; rw [decide_eq_true rfl]; rintro r w5 ⟨rfl, m5, rfl⟩))
    go_ret
    exact ⟨rfl, below_drewN HB4.out m5⟩
  · obtain ⟨r1, r2⟩ := recs_bad l HM.out (by rw [HR.out]; exact he)
    rw [HR.out] at r1 r2
    simp only at r1 r2
    subst r1
    rw [HN.out] at r2
    have heb : ((e : Int) != 0) = true := by simp; omega
    have hat : (at0 : Int) ≤ (n : Int) := by omega
    have hat0 : (0 : Int) ≤ (at0 : Int) := by omega
    go_enter Try.func7, Try.ntmps7
    go_wp2_with (first
      | (go_at_call 9; refine (head05_any w).mono ?_; rintro r w1 ⟨rfl, hb1⟩; have HB1 : Hid (Below w.heap.size w w1) := hb1; clear hb1)
      | (go_at_call 16; have hcp := copy_any l a cap w1 (HB.out.keep HB1.out) (by rw [HN.out]; omega); rw [HN.out] at hcp; refine hcp.mono ?_; rintro r w2 ⟨v2, rfl, ho2, hb2⟩; obtain ⟨a2, cap2, rfl, hcap2, _, hby2, _⟩ := ho2.shape; rw [HN.out] at hcap2 ⊢; have HB2 : Hid (Below w.heap.size w w2) := HB1.out.trans (hb2.mono HB1.out.size); have HY2 : Hid (Bytes w2 a2 l) := hby2; clear hb2 ho2 hby2 hcp)
      | (go_at_call 18; refine (tdec l _ n _ _ HN.out HY2.out hcap2 hlm).mono ?_; unfold DecPost; rw [HR.out]; rintro r w3 ⟨v3, L3, rfl, hL3, hr3, hb3⟩; (obtain rfl : L3 = [] := by cases L3 with | nil => rfl | cons p q => simp at hL3); obtain ⟨a3, cap3, rfl, hfs3⟩ := hr3.fs (fun p hp => by cases hp); have HB3 : Hid (Below w.heap.size w w3) := HB2.out.trans (hb3.mono HB2.out.size); clear hL3 hr3 hb3 hfs3))
    go_ret
    exact ⟨rfl, HB3.out⟩
theorem own : ownKnob Try.prog.godebug = none := by kernel_rfl
theorem laidOut : laidOutB Try.prog = true := by kernel_rfl
set_option maxRecDepth 100000 in
theorem contract (H : Type) (enc : TypeId × Value → H) (W : World) (base : Nat) (args : Array Value) (ds gs : List (DataW H)) (before : List MemPlace)
    (hval : ∀ (j : Nat) t v, Try.f7.params[j]? = some t → args[j]? = some v → Value.okWide Try.prog W .any base t v)
    (hW : DataW.Whole enc Try.prog Try.f7.params.toList Rows.tlvOneFormSpec.vars false W args.toList ds gs before)
    (hsz : (DataW.weightsEach Try.prog (Try.f7.params.toList ++ Rows.tlvOneFormSpec.plain.varTypes Try.prog) (ds ++ gs)).all (· ≤ reachBytes) = true) :
    Calls Try.prog 7 args W fun e W' => ∃ v, e = .returned v ∧ Rows.tlvOneFormSpec.post enc Try.prog Try.f7 false true false false W args v W' := by
  have hW' := hW
  obtain ⟨p, q, hA0, hV, rfl, hfz, hnd⟩ := hW
  have hA : DataW.TrodAll enc Try.prog W 0 (fun _ => true) true Try.f7.params.toList args.toList ds p := hA0
  rw [Try.params7] at hA hval hsz
  obtain ⟨v0, vs0, d0, ds0, p0, q0, hargs, rfl, rfl, h0, r0⟩ := trodAll_cons hA
  obtain ⟨rfl, rfl, rfl⟩ := trodAll_nil r0
  obtain rfl : args = #[v0] := by cases args; simp_all
  obtain ⟨rfl, rfl⟩ := trodVars_none hV
  obtain ⟨a0, len0, cap0, rfl⟩ := okWide_slice Try.underlying25 (hval 0 25 v0 rfl rfl)
  have k0 := h0
  have lt0 : ∀ x ∈ p0, x.block < W.heap.size := by obtain ⟨m, hm⟩ := k0; exact DataW.trod_lt m _ _ _ hm
  obtain ⟨l0, hlen0, w0, c0⟩ : ∃ l : List Nat, l.length = len0 ∧ Bytes W a0 l ∧ Came W a0 len0 cap0 1 := by
    obtain ⟨fuel, hf⟩ := h0
    rcases open_ints Try.underlying25 Try.underlying5 (by kernel_rfl) hf with ⟨hcs, hx⟩ | ⟨x, l, c, zs, hcs, _, hl, hm, hz, hx, hcell, hwz⟩
    · simp [Value.cells] at hcs
      obtain ⟨rfl, rfl, rfl⟩ := hcs
      exact ⟨[], rfl, ⟨by simp, .inl rfl⟩, ⟨Nat.le_refl _, by simp, fun _ => rfl⟩⟩
    · simp [Value.cells] at hcs
      obtain ⟨rfl, rfl, rfl⟩ := hcs
      have hz2 : zs.length = cap0 := by simpa using hz
      obtain ⟨ll, e1, e2, e3⟩ := row_nats .u8 256 (by decide) wf_u8 W x zs len0 (by omega) hcell hwz
      have hd : d0 = .slice (lits .u8 (zs.take len0)) (lits .u8 (zs.drop len0)) := (Prod.mk.inj hx).1
      have hreach : cap0 * 1 ≤ 140737488351232 := by
        have := sized_slice hsz (j := 0) (t := 25) (e := 5) rfl (by rw [hd]; rfl) Try.underlying25
        rw [show Try.prog.bytesOf 5 = 1 from by kernel_rfl] at this
        simp only [lits, List.length_map, List.length_take, List.length_drop, reachBytes] at this
        have hmin : min len0 zs.length = len0 := Nat.min_eq_left (by omega)
        rw [hmin] at this
        have hcap : len0 + (zs.length - len0) = cap0 := by omega
        rw [hcap] at this
        exact this
      exact ⟨ll, e1, ⟨e2, e3⟩, ⟨hl, hreach, fun h => by cases h⟩⟩
  subst hlen0
  clear hA0
  refine (walk l0 a0 cap0 W w0 c0).mono fun e W' ⟨he, bel⟩ => ?_
  subst he
  exact ⟨_, rfl, _, _, _, [], _, [], hW', trodAll_mk1 (shut_bool Try.underlying4 _), (trodAll_cons_mk (Below.trod laidOut (by kernel_rfl) (of_decide_eq_true (by kernel_rfl)) k0 bel lt0) trodAll_mk0), rfl, bel.frame _, fun h => by cases h⟩
set_option maxRecDepth 100000 in
theorem lifted (os : Os) (started : os.Started) (H : Type) (enc : TypeId × Value → H) :
    ReturnsInHanded {} Try.checked os 7 .any (Rows.tlvOneFormSpec.pre6 enc Try.prog Try.f7 Rows.tlvOneFormRow.domain false) (Rows.tlvOneFormSpec.post enc Try.prog Try.f7 false true false false) := by
  refine returnsInHanded_of_change_sized (C := Try.checked) own started (by kernel_rfl) Try.func7
    (ChangeSpec.witness6 (enc := enc) (C := Try.checked) false ⟨#[], #[.slice none 0 0], []⟩ 8 (by kernel_rfl) (by kernel_rfl) (by kernel_rfl) (by kernel_rfl)) ?_
  intro W base args ds gs before hval hW _ hsz _
  exact contract H enc W base args ds gs before hval hW hsz
theorem over : Rows.tlvOneFormRow.holds Try.pinned (OpenSpec.ofChange Rows.tlvOneFormSpec) :=
  OpenClaim.holds_of_wide 7 Try.f7 rfl rfl rfl rfl rfl rfl rfl ⟨rfl, rfl, rfl, rfl, rfl⟩ rfl rfl rfl rfl rfl (by kernel_rfl) Try.func7 (by kernel_rfl)
    (of_decide_eq_true (by kernel_rfl)) (by unfold Func.isWrapper; first | (rw [if_pos (by decide +kernel)]; kernel_rfl) | (rw [if_neg (by decide +kernel)]; exact ⟨rfl, rfl⟩))
    (fun os started H enc _ => lifted os started H enc)
theorem proved : Rows.TlvOneFormSaid := over
end Go.Proofs.Ytfaiebaipoohpaa.tlvOneForm
