/- For every list of fields: what tlv.Encode writes tlv.Decode reads, and what means nothing in a field is nothing; where it can't be written, nothing is. No condition. -/
import Derived.Test.YtfaiebaipoohpaaTlq
import Derived.Test.YtfaiebaipoohpaaTlb
import Derived.Test.YtfaiebaipoohpaaTle
import Derived.Test.YtfaiebaipoohpaaTlz
import Derived.Test.YtfaiebaipoohpaaTly
import Derived.SizedLaws
import Derived.ChangeOld
namespace Go.Proofs.Ytfaiebaipoohpaa.tlvBack
open Go.ChangeShapes Go.WideShapes Go.ChangeAt Go.RowKit
set_option linter.unusedVariables false
set_option maxRecDepth 20000 in
set_option maxHeartbeats 400000 in
theorem rcopy_nil (a : Option Addr) (cap : Nat) (w : World) :
    Calls Try.prog 10 #[.slice a 0 cap] w fun r w' => ∃ v M, r = .returned v ∧ M.map Prod.fst = ([] : List (Fld × Value)).map Prod.fst ∧ Rws w' w.heap.size v M ∧ Below w.heap.size w w' := by
  have HE0 : Hid (Rws (w.alloc (.cells #[] 36)) w.heap.size (.slice (some ⟨w.heap.size, 0, none⟩) 0 0) []) := ⟨⟨by simp [flat], .inr ⟨w.heap.size, 0, #[], rfl, Nat.le_refl _, heap_alloc_new w _, by simp, by simp, by simp, by simp [flat]⟩⟩, fun p hp => by cases hp⟩
  go_enter Try.func10, Try.ntmps10
  go_wp2
  refine wp_loop_rounds 1 ?_
  rw [rounds_succ]
  go_wp2
  go_ret
  exact ⟨_, [], rfl, rfl, HE0.out, (Below.refl _ _).alloc (Nat.le_refl _) _⟩
theorem rcopy (L : List (Fld × Value)) (a : Option Addr) (n cap : Nat) (w : World) (hn : L.length = n) (hfs : FsAt w a L) (hm : n * 48 ≤ 140737488351232) (hbl : ∀ p ∈ L, p.1.bytes.length ≤ 281474976710656) :
    Calls Try.prog 10 #[.slice a n cap] w fun r w' => ∃ v M, r = .returned v ∧ M.map Prod.fst = L.map Prod.fst ∧ Rws w' w.heap.size v M ∧ Below w.heap.size w w' := by
  rcases hfs.row with rfl | ⟨b, off, rfl, _, _⟩
  · simp only [List.length_nil] at hn
    subst hn
    exact rcopy_nil a cap w
  · exact rcopy_any L b off n cap w hn hfs hm hbl
set_option maxRecDepth 20000 in
set_option maxHeartbeats 1000000 in
theorem walk (L : List (Fld × Value)) (a : Option Addr) (cap : Nat) (w : World) (hfs : FsAt w a L) (hc : L.length ≤ cap ∧ cap * 48 ≤ 140737488351232 ∧ ∀ p ∈ L, p.1.bytes.length ≤ 140737488351232) :
    Calls Try.prog 6 #[.slice a L.length cap] w fun r w' => r = .returned (.bool true) ∧ Below w.heap.size w w' := by
  obtain ⟨hc1, hc2, hc3⟩ := hc
  have HF : Hid (FsAt w a L) := hfs
  have HBL : Hid (∀ p ∈ L, p.1.bytes.length ≤ 281474976710656) := fun p hp => Nat.le_trans (hc3 p hp) (by omega)
  have HOK : Hid (∀ p ∈ L, p.1.num ≤ 18446744073709551615 ∧ p.1.bytes.length ≤ maxLen) := fun p hp => ⟨(hfs.fok p hp).num, (hfs.fok p hp).len⟩
  obtain ⟨n, hn⟩ : ∃ n, L.length = n := ⟨_, rfl⟩
  have HN : Hid (L.length = n) := hn
  rw [hn] at hc1 ⊢
  have hn48 : n * 48 ≤ 140737488351232 := by omega
  have hnm : n ≤ maxLen := by unfold maxLen; omega
  obtain ⟨r0, e, hre⟩ : ∃ r0 e, encs (L.map Prod.fst) 0 [] = (r0, e) := ⟨_, _, rfl⟩
  have HE : Hid (encs (L.map Prod.fst) 0 [] = (r0, e)) := hre
  have HMO : Hid (∀ M : List (Fld × Value), M.map Prod.fst = L.map Prod.fst → ∀ p ∈ M, p.1.num ≤ 18446744073709551615 ∧ p.1.bytes.length ≤ maxLen) := by
    intro M hM p hp
    have h1 : p.1 ∈ L.map Prod.fst := by rw [← hM]; exact List.mem_map_of_mem hp
    obtain ⟨q, hq, hqe⟩ := List.mem_map.1 h1
    rw [← hqe]
    exact HOK.out q hq
  clear hfs hc3 hn hre
  by_cases he : e = 0
  · subst he
    have HRB : Hid (recs r0 = ((L.map Prod.fst).map norm, 0, 0)) := recs_back _ _ (fun f hf => by obtain ⟨q, hq, rfl⟩ := List.mem_map.1 hf; exact (HOK.out q hq).1) HE.out
    have hrl : r0.length ≤ 1024 := (encs_pre _ _ _ _ HE.out).2
    have hrm : r0.length ≤ maxLen := by unfold maxLen; omega
    have HPO : Hid (∀ M : List (Fld × Value), (L.map Prod.fst).map norm = M.map Prod.fst → (∀ p ∈ M, p.1.num ≤ 18446744073709551615 ∧ p.1.bytes.length ≤ maxLen) ∧ (∀ p ∈ M, norm p.1 = p.1) ∧ M.length = L.length ∧ ∀ (i : Nat) (p q : Fld × Value), M[i]? = some p → L[i]? = some q → Like p.1 q.1) := by
      intro M hM
      have hml : M.length = L.length := by have := congrArg List.length hM; simpa using this.symm
      have hmem : ∀ p ∈ M, ∃ q ∈ L, p.1 = norm q.1 := by
        intro p hp
        have h1 : p.1 ∈ (L.map Prod.fst).map norm := by rw [hM]; exact List.mem_map_of_mem hp
        obtain ⟨f, hf, hfe⟩ := List.mem_map.1 h1
        obtain ⟨q, hq, rfl⟩ := List.mem_map.1 hf
        exact ⟨q, hq, hfe.symm⟩
      refine ⟨?_, ?_, hml, ?_⟩
      · intro p hp
        obtain ⟨q, hq, hqe⟩ := hmem p hp
        rw [hqe]
        have := HOK.out q hq
        unfold norm
        split
        · exact ⟨by simp, this.2⟩
        · exact ⟨this.1, by simp⟩
      · intro p hp
        obtain ⟨q, hq, hqe⟩ := hmem p hp
        rw [hqe, norm_norm]
      · intro i p q hp hq
        have h1 := congrArg (fun l => l[i]?) hM
        simp only [List.getElem?_map, hp, hq, Option.map_some] at h1
        have h2 : norm q.1 = p.1 := Option.some.inj h1
        rw [← h2]
        refine ⟨(norm_tag _).1, (norm_tag _).2, ?_, ?_⟩
        · intro ht; unfold norm at ht ⊢; split <;> rename_i hz
          · rfl
          · rw [if_neg hz] at ht; exact absurd ht hz
        · intro ht; unfold norm at ht ⊢; split <;> rename_i hz
          · rw [if_pos hz] at ht; simp only at ht; rw [hz] at ht; cases ht
          · rfl
    go_enter Try.func6, Try.ntmps6
    go_wp2_with (first
      | (go_at_call 9; refine (head05_any w).mono ?_; rintro r w1 ⟨rfl, hb1⟩; have HB1 : Hid (Below w.heap.size w w1) := hb1; clear hb1)
      | (go_at_call 10; refine (rcopy L a n cap w1 HN.out (HF.out.keep HB1.out) hn48 HBL.out).mono ?_; rintro r w2 ⟨v2, M, rfl, hM, hr2, hb2⟩; have HM : Hid (M.map Prod.fst = L.map Prod.fst) := hM; obtain ⟨a2, cap2, rfl, hfs2⟩ := hr2.fs (HMO.out M HM.out); have HB2 : Hid (Below w.heap.size w w2) := HB1.out.trans (hb2.mono HB1.out.size); have HF2 : Hid (FsAt w2 a2 M) := hfs2; clear hM hr2 hb2 hfs2)
      | (go_at_call 12; refine (tenc M _ _ _ _ rfl HF2.out (by have h := congrArg List.length HM.out; simp at h; rw [h, HN.out]; omega)).mono ?_; rw [HM.out, HE.out]; rintro r w3 ⟨v3, rfl, ho3, hb3⟩; obtain ⟨a3, cap3, rfl, hcap3, _, hby3, _⟩ := ho3.shape; have HB3 : Hid (Below w.heap.size w w3) := HB2.out.trans (hb3.mono HB2.out.size); have HY3 : Hid (Bytes w3 a3 r0) := hby3; clear ho3 hb3 hby3)
      | (go_at_call 18; refine (tdec r0 _ _ _ _ rfl HY3.out hcap3 hrm).mono ?_; unfold DecPost; rw [HRB.out]; rintro r w4 ⟨v4, L4, rfl, hL4, hr4, hb4⟩; have HL4 : Hid ((L.map Prod.fst).map norm = L4.map Prod.fst) := hL4; obtain ⟨a4, cap4, rfl, hfs4⟩ := hr4.fs (HPO.out L4 HL4.out).1; have HB4 : Hid (Below w.heap.size w w4) := HB3.out.trans (hb4.mono HB3.out.size); have HF4 : Hid (FsAt w4 a4 L4) := hfs4; clear hL4 hr4 hb4 hfs4)
      | (go_at_call 19; refine (plainN_fs L4 L _ _ _ _ _ _ w4 HF4.out (HF.out.keep HB4.out) (HPO.out L4 HL4.out).2.2.2 (HPO.out L4 HL4.out).2.2.1 (HPO.out L4 HL4.out).2.1 rfl HN.out (by rw [(HPO.out L4 HL4.out).2.2.1, HN.out]; exact hnm)).mono ?_; rintro r w5 ⟨rfl, m5, rfl⟩))
    go_ret
    exact ⟨rfl, below_drewN HB4.out _⟩
  · have heb : ((e : Int) != 0) = true := by simp; omega
    have hr0 : r0 = [] := by have h := encs_err (L.map Prod.fst) 0 [] (by rw [HE.out]; exact he); rw [HE.out] at h; exact h
    subst hr0
    go_enter Try.func6, Try.ntmps6
    go_wp2_with (first
      | (go_at_call 9; refine (head05_any w).mono ?_; rintro r w1 ⟨rfl, hb1⟩; have HB1 : Hid (Below w.heap.size w w1) := hb1; clear hb1)
      | (go_at_call 10; refine (rcopy L a n cap w1 HN.out (HF.out.keep HB1.out) hn48 HBL.out).mono ?_; rintro r w2 ⟨v2, M, rfl, hM, hr2, hb2⟩; have HM : Hid (M.map Prod.fst = L.map Prod.fst) := hM; obtain ⟨a2, cap2, rfl, hfs2⟩ := hr2.fs (HMO.out M HM.out); have HB2 : Hid (Below w.heap.size w w2) := HB1.out.trans (hb2.mono HB1.out.size); have HF2 : Hid (FsAt w2 a2 M) := hfs2; clear hM hr2 hb2 hfs2)
      | (go_at_call 12; refine (tenc M _ _ _ _ rfl HF2.out (by have h := congrArg List.length HM.out; simp at h; rw [h, HN.out]; omega)).mono ?_; rw [HM.out, HE.out]; rintro r w3 ⟨v3, rfl, ho3, hb3⟩; obtain ⟨a3, cap3, rfl, _, _, _, _⟩ := ho3.shape; have HB3 : Hid (Below w.heap.size w w3) := HB2.out.trans (hb3.mono HB2.out.size); clear ho3 hb3))
    go_ret
    exact ⟨rfl, HB3.out⟩
theorem own : ownKnob Try.prog.godebug = none := by kernel_rfl
theorem laidOut : laidOutB Try.prog = true := by kernel_rfl
set_option maxRecDepth 100000 in
theorem contract (H : Type) (enc : TypeId × Value → H) (W : World) (base : Nat) (args : Array Value) (ds gs : List (DataW H)) (before : List MemPlace)
    (hval : ∀ (j : Nat) t v, Try.f6.params[j]? = some t → args[j]? = some v → Value.okWide Try.prog W .any base t v)
    (hW : DataW.Whole enc Try.prog Try.f6.params.toList Rows.tlvBackSpec.vars false W args.toList ds gs before)
    (hsz : (DataW.weightsEach Try.prog (Try.f6.params.toList ++ Rows.tlvBackSpec.plain.varTypes Try.prog) (ds ++ gs)).all (· ≤ reachBytes) = true) :
    Calls Try.prog 6 args W fun e W' => ∃ v, e = .returned v ∧ Rows.tlvBackSpec.post enc Try.prog Try.f6 false true false false W args v W' := by
  have hW' := hW
  obtain ⟨p, q, hA0, hV, rfl, hfz, hnd⟩ := hW
  have hA : DataW.TrodAll enc Try.prog W 0 (fun _ => true) true Try.f6.params.toList args.toList ds p := hA0
  rw [Try.params6] at hA hval hsz
  obtain ⟨v0, vs0, d0, ds0, p0, q0, hargs, rfl, rfl, h0, r0⟩ := trodAll_cons hA
  obtain ⟨rfl, rfl, rfl⟩ := trodAll_nil r0
  obtain rfl : args = #[v0] := by cases args; simp_all
  obtain ⟨rfl, rfl⟩ := trodVars_none hV
  obtain ⟨a0, len0, cap0, rfl⟩ := okWide_slice Try.underlying22 (hval 0 22 v0 rfl rfl)
  have k0 := h0
  have lt0 : ∀ x ∈ p0, x.block < W.heap.size := by obtain ⟨m, hm⟩ := k0; exact DataW.trod_lt m _ _ _ hm
  obtain ⟨l0, hlen0, w0, c0⟩ : ∃ L : List (Fld × Value), L.length = len0 ∧ FsAt W a0 L ∧ (len0 ≤ cap0 ∧ cap0 * 48 ≤ 140737488351232 ∧ ∀ p ∈ L, p.1.bytes.length ≤ 140737488351232) := by
    obtain ⟨fuel, hf⟩ := h0
    rcases open_fields hf with ⟨hcs, hx⟩ | ⟨x, l, c, L, D, hcs, hl, hm, hLl, hfs, hx, hD⟩
    · simp [Value.cells] at hcs
      obtain ⟨rfl, rfl, rfl⟩ := hcs
      exact ⟨[], rfl, ⟨.inl rfl, fun p hp => by cases hp⟩, Nat.le_refl _, by simp, fun p hp => by cases hp⟩
    · simp [Value.cells] at hcs
      obtain ⟨rfl, rfl, rfl⟩ := hcs
      have hd : d0 = _ := hx
      obtain ⟨s1, s2⟩ := sized_fields hsz (j := 0) rfl (by rw [hd]; rfl) hl hLl hD
      exact ⟨L, hLl, hfs, hl, s1, s2⟩
  subst hlen0
  clear hA0
  refine (walk l0 a0 cap0 W w0 c0).mono fun e W' ⟨he, bel⟩ => ?_
  subst he
  exact ⟨_, rfl, _, _, _, [], _, [], hW', trodAll_mk1 (shut_bool Try.underlying4 _), (trodAll_cons_mk (Below.trod laidOut (by kernel_rfl) (of_decide_eq_true (by kernel_rfl)) k0 bel lt0) trodAll_mk0), rfl, bel.frame _, fun h => by cases h⟩
set_option maxRecDepth 100000 in
theorem lifted (os : Os) (started : os.Started) (H : Type) (enc : TypeId × Value → H) :
    ReturnsInHanded {} Try.checked os 6 .any (Rows.tlvBackSpec.pre6 enc Try.prog Try.f6 Rows.tlvBackRow.domain false) (Rows.tlvBackSpec.post enc Try.prog Try.f6 false true false false) := by
  refine returnsInHanded_of_change_sized (C := Try.checked) own started (by kernel_rfl) Try.func6
    (ChangeSpec.witness6 (enc := enc) (C := Try.checked) false ⟨#[], #[.slice none 0 0], []⟩ 8 (by kernel_rfl) (by kernel_rfl) (by kernel_rfl) (by kernel_rfl)) ?_
  intro W base args ds gs before hval hW _ hsz _
  exact contract H enc W base args ds gs before hval hW hsz
theorem over : Rows.tlvBackRow.holds Try.pinned (OpenSpec.ofChange Rows.tlvBackSpec) :=
  OpenClaim.holds_of_wide 6 Try.f6 rfl rfl rfl rfl rfl rfl rfl ⟨rfl, rfl, rfl, rfl, rfl⟩ rfl rfl rfl rfl rfl (by kernel_rfl) Try.func6 (by kernel_rfl)
    (of_decide_eq_true (by kernel_rfl)) (by unfold Func.isWrapper; first | (rw [if_pos (by decide +kernel)]; kernel_rfl) | (rw [if_neg (by decide +kernel)]; exact ⟨rfl, rfl⟩))
    (fun os started H enc _ => lifted os started H enc)
theorem proved : Rows.TlvBackSaid := over
end Go.Proofs.Ytfaiebaipoohpaa.tlvBack
