/- For every list of bytes: tlv.Decode's fields, place and error are the reference's; what means nothing in a field is nothing; the bytes stay as they were. No condition. -/
import Derived.Test.YtfaiebaipoohpaaTlq
import Derived.Test.YtfaiebaipoohpaaTla
import Derived.Test.YtfaiebaipoohpaaTls
import Derived.SizedLaws
import Derived.ChangeOld
namespace Go.Proofs.Ytfaiebaipoohpaa.tlvDecodes
open Go.ChangeShapes Go.WideShapes Go.ChangeAt Go.RowKit
set_option linter.unusedVariables false
theorem recs_right (l : List Nat) (hl : ∀ x ∈ l, x < 256) : ∀ f ∈ (recs l).1, FRight f := by
  by_cases h : (recs l).2.2 = 0
  · exact (recs_ok l hl h).2.2.1
  · rw [(recs_bad l hl h).1]; intro f hf; cases hf
theorem recs_few (l : List Nat) (hl : ∀ x ∈ l, x < 256) : (recs l).1.length ≤ 1024 := by
  by_cases h : (recs l).2.2 = 0
  · obtain ⟨_, h2, h3, h4⟩ := recs_ok l hl h
    have := encs_len (recs l).1 0 [] l (fun f hf => (h3 f hf).1) h2
    simp at this; omega
  · rw [(recs_bad l hl h).1]; simp
set_option maxRecDepth 20000 in
set_option maxHeartbeats 1000000 in
theorem walk (l : List Nat) (a : Option Addr) (cap : Nat) (w : World) (hb : Bytes w a l) (hc : Came w a l.length cap 1) :
    Calls Try.prog 5 #[.slice a l.length cap] w fun r w' => r = .returned (.bool true) ∧ Below w.heap.size w w' := by
  have HB : Hid (Bytes w a l) := hb
  have hl : l.length ≤ 140737488351232 := by have h1 := hc.1; have h2 := hc.2; omega
  have hlm : l.length ≤ maxLen := by unfold maxLen; omega
  have hlc : l.length ≤ cap := hc.1
  have HRR : Hid (∀ f ∈ (recs l).1, FRight f) := recs_right l hb.mem
  have HRF : Hid ((recs l).1.length ≤ 1024) := recs_few l hb.mem
  obtain ⟨n, hn⟩ : ∃ n, l.length = n := ⟨_, rfl⟩
  have HN : Hid (l.length = n) := hn
  rw [hn] at hl hlm hlc ⊢
  have hnI : (n : Int) ≤ 140737488351232 := by omega
  obtain ⟨fs, at0, e, hre⟩ : ∃ fs at0 e, recs l = (fs, at0, e) := ⟨_, _, _, rfl⟩
  have HR : Hid (recs l = (fs, at0, e)) := hre
  rw [hre] at HRR HRF
  have HFO : Hid (∀ (L : List (Fld × Value)), fs = L.map Prod.fst → ∀ p ∈ L, (p.1.num ≤ 18446744073709551615 ∧ p.1.bytes.length ≤ maxLen) ∧ norm p.1 = p.1) := by
    intro L hL p hp
    have h := HRR.out p.1 (by show p.1 ∈ fs; rw [hL]; exact List.mem_map_of_mem hp)
    exact ⟨⟨h.1, Nat.le_trans h.2.1 (by unfold maxLen; omega)⟩, h.2.2.1⟩
  clear hb hc hn hre HRR
  go_enter Try.func5, Try.ntmps5
  go_wp2_with (first
    | (go_at_call 9; refine (head05_any w).mono ?_; rintro r w1 ⟨rfl, hb1⟩; have HB1 : Hid (Below w.heap.size w w1) := hb1; clear hb1)
    | (go_at_call 16; have hcp := copy_any l a cap w1 (HB.out.keep HB1.out) (by rw [HN.out]; omega); rw [HN.out] at hcp; refine hcp.mono ?_; rintro r w2 ⟨v2, rfl, ho2, hb2⟩; obtain ⟨a2, cap2, hv2, hcap2, _, hby2, _⟩ := ho2.shape; rw [HN.out] at hcap2 hv2; subst hv2; have HB2 : Hid (Below w.heap.size w w2) := HB1.out.trans (hb2.mono HB1.out.size); have HY2 : Hid (Bytes w2 a2 l) := hby2; clear hb2 ho2 hby2 hcp)
    | (go_at_call 17; refine (rtdec l _ n _ _ HN.out (HB.out.keep HB2.out) hlc hlm).mono ?_; unfold DecPost; rw [HR.out]; rintro r w3 ⟨v3, L3, rfl, hL3, hr3, hb3⟩; have HL3 : Hid (fs = L3.map Prod.fst) := hL3; obtain ⟨a3, cap3, rfl, hfs3⟩ := hr3.fs (fun p hp => (HFO.out L3 HL3.out p hp).1); have HB3 : Hid (Below w.heap.size w w3) := HB2.out.trans (hb3.mono HB2.out.size); have HF3 : Hid (FsAt w3 a3 L3) := hfs3; have HY3 : Hid (Bytes w3 a2 l) := HY2.out.keep hb3; clear hL3 hr3 hb3 hfs3)
    | (go_at_call 18; refine (tdec l _ n _ _ HN.out HY3.out hcap2 hlm).mono ?_; unfold DecPost; rw [HR.out]; rintro r w4 ⟨v4, L4, rfl, hL4, hr4, hb4⟩; have HL4 : Hid (fs = L4.map Prod.fst) := hL4; obtain ⟨a4, cap4, rfl, hfs4⟩ := hr4.fs (fun p hp => (HFO.out L4 HL4.out p hp).1); have HB4 : Hid (Below w.heap.size w w4) := HB3.out.trans (hb4.mono HB3.out.size); have HF4 : Hid (FsAt w4 a4 L4 ∧ FsAt w4 a3 L3) := ⟨hfs4, HF3.out.keep hb4⟩; have HY4 : Hid (Bytes w4 a2 l) := HY3.out.keep hb4; clear hL4 hr4 hb4 hfs4)
    | (go_at_call 19; refine (plain_fs L4 L3 _ _ _ _ _ _ w4 HF4.out.1 HF4.out.2 (by rw [← HL4.out, ← HL3.out]) (fun p hp => (HFO.out L4 HL4.out p hp).2) rfl rfl (by have h : fs.length ≤ 1024 := HRF.out; rw [HL4.out, List.length_map] at h; unfold maxLen; omega)).mono ?_; rintro r w5 ⟨rfl, m5, rfl⟩)
    | (go_at_call 13; refine (same_at l l _ _ _ _ _ _ _ HN.out HN.out (HY4.out.drewN _) ((HB.out.keep HB4.out).drewN _) (by rw [HN.out]; exact hlm) (by rw [HN.out]; exact hlm)).mono ?_; rw [decide_eq_true rfl]; rintro r w6 ⟨rfl, m6, rfl⟩))
  go_ret
  exact ⟨rfl, below_drewN HB4.out _⟩
theorem own : ownKnob Try.prog.godebug = none := by kernel_rfl
theorem laidOut : laidOutB Try.prog = true := by kernel_rfl
set_option maxRecDepth 100000 in
theorem contract (H : Type) (enc : TypeId × Value → H) (W : World) (base : Nat) (args : Array Value) (ds gs : List (DataW H)) (before : List MemPlace)
    (hval : ∀ (j : Nat) t v, Try.f5.params[j]? = some t → args[j]? = some v → Value.okWide Try.prog W .any base t v)
    (hW : DataW.Whole enc Try.prog Try.f5.params.toList Rows.tlvDecodesSpec.vars false W args.toList ds gs before)
    (hsz : (DataW.weightsEach Try.prog (Try.f5.params.toList ++ Rows.tlvDecodesSpec.plain.varTypes Try.prog) (ds ++ gs)).all (· ≤ reachBytes) = true) :
    Calls Try.prog 5 args W fun e W' => ∃ v, e = .returned v ∧ Rows.tlvDecodesSpec.post enc Try.prog Try.f5 false true false false W args v W' := by
  have hW' := hW
  obtain ⟨p, q, hA0, hV, rfl, hfz, hnd⟩ := hW
  have hA : DataW.TrodAll enc Try.prog W 0 (fun _ => true) true Try.f5.params.toList args.toList ds p := hA0
  rw [Try.params5] at hA hval hsz
  obtain ⟨v0, vs0, d0, ds0, p0, q0, hargs, rfl, rfl, h0, r0⟩ := trodAll_cons hA
  obtain ⟨rfl, rfl, rfl⟩ := trodAll_nil r0
  obtain rfl : args = #[v0] := by cases args; simp_all
  obtain ⟨rfl, rfl⟩ := trodVars_none hV
  obtain ⟨a0, len0, cap0, rfl⟩ := okWide_slice Try.underlying25 (hval 0 25 v0 rfl rfl)
  have k0 := h0
  have lt0 : ∀ x ∈ p0, x.block < W.heap.size := by obtain ⟨m, hm⟩ := k0; exact DataW.trod_lt m _ _ _ hm
  obtain ⟨l0, hlen0, w0, c0⟩ : ∃ l : List Nat, l.length = len0 ∧ Bytes W a0 l ∧ Came W a0 len0 cap0 1 := by
    obtain ⟨fuel, hf⟩ := h0
    rcases open_ints Try.underlying25 Try.underlying5 (by kernel_rfl) hf with ⟨hcs, hx⟩ | ⟨x, l, c, zs, hcs, _, hl, hm, hz, hx, hcell, hwz⟩
    · simp [Value.cells] at hcs
      obtain ⟨rfl, rfl, rfl⟩ := hcs
      exact ⟨[], rfl, ⟨by simp, .inl rfl⟩, ⟨Nat.le_refl _, by simp, fun _ => rfl⟩⟩
    · simp [Value.cells] at hcs
      obtain ⟨rfl, rfl, rfl⟩ := hcs
      have hz2 : zs.length = cap0 := by simpa using hz
      obtain ⟨ll, e1, e2, e3⟩ := row_nats .u8 256 (by decide) wf_u8 W x zs len0 (by omega) hcell hwz
      have hd : d0 = .slice (lits .u8 (zs.take len0)) (lits .u8 (zs.drop len0)) := (Prod.mk.inj hx).1
      have hreach : cap0 * 1 ≤ 140737488351232 := by
        have := sized_slice hsz (j := 0) (t := 25) (e := 5) rfl (by rw [hd]; rfl) Try.underlying25
        rw [show Try.prog.bytesOf 5 = 1 from by kernel_rfl] at this
        simp only [lits, List.length_map, List.length_take, List.length_drop, reachBytes] at this
        have hmin : min len0 zs.length = len0 := Nat.min_eq_left (by omega)
        rw [hmin] at this
        have hcap : len0 + (zs.length - len0) = cap0 := by omega
        rw [hcap] at this
        exact this
      exact ⟨ll, e1, ⟨e2, e3⟩, ⟨hl, hreach, fun h => by cases h⟩⟩
  subst hlen0
  clear hA0
  refine (walk l0 a0 cap0 W w0 c0).mono fun e W' ⟨he, bel⟩ => ?_
  subst he
  exact ⟨_, rfl, _, _, _, [], _, [], hW', trodAll_mk1 (shut_bool Try.underlying4 _), (trodAll_cons_mk (Below.trod laidOut (by kernel_rfl) (of_decide_eq_true (by kernel_rfl)) k0 bel lt0) trodAll_mk0), rfl, bel.frame _, fun h => by cases h⟩
set_option maxRecDepth 100000 in
theorem lifted (os : Os) (started : os.Started) (H : Type) (enc : TypeId × Value → H) :
    ReturnsInHanded {} Try.checked os 5 .any (Rows.tlvDecodesSpec.pre6 enc Try.prog Try.f5 Rows.tlvDecodesRow.domain false) (Rows.tlvDecodesSpec.post enc Try.prog Try.f5 false true false false) := by
  refine returnsInHanded_of_change_sized (C := Try.checked) own started (by kernel_rfl) Try.func5
    (ChangeSpec.witness6 (enc := enc) (C := Try.checked) false ⟨#[], #[.slice none 0 0], []⟩ 8 (by kernel_rfl) (by kernel_rfl) (by kernel_rfl) (by kernel_rfl)) ?_
  intro W base args ds gs before hval hW _ hsz _
  exact contract H enc W base args ds gs before hval hW hsz
theorem over : Rows.tlvDecodesRow.holds Try.pinned (OpenSpec.ofChange Rows.tlvDecodesSpec) :=
  OpenClaim.holds_of_wide 5 Try.f5 rfl rfl rfl rfl rfl rfl rfl ⟨rfl, rfl, rfl, rfl, rfl⟩ rfl rfl rfl rfl rfl (by kernel_rfl) Try.func5 (by kernel_rfl)
    (of_decide_eq_true (by kernel_rfl)) (by unfold Func.isWrapper; first | (rw [if_pos (by decide +kernel)]; kernel_rfl) | (rw [if_neg (by decide +kernel)]; exact ⟨rfl, rfl⟩))
    (fun os started H enc _ => lifted os started H enc)
theorem proved : Rows.TlvDecodesSaid := over
end Go.Proofs.Ytfaiebaipoohpaa.tlvDecodes
