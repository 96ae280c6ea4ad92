/- For every list of fields: tlv.Must writes what the reference writes, and where it can't be written panics with the error's number. No condition. -/
import Derived.Test.YtdfknehdnkmlgaaTles
import Derived.Test.YtdfknehdnkmlgaaTlmu
import Derived.Test.YtdfknehdnkmlgaaTly
import Derived.SizedLaws
import Derived.ChangeOld
namespace Go.Proofs.Ytdfknehdnkmlgaa.tlvMust
open Go.ChangeShapes Go.WideShapes Go.ChangeAt Go.RowKit
set_option linter.unusedVariables false
theorem head_fs1 (w : World) : FsAt (w.alloc (.cells #[.int .i64 1, .bool false, .int .u64 5, .slice none 0 0] 36)) (some ⟨w.heap.size, 0, none⟩) [(⟨1, false, 5, []⟩, .slice none 0 0)] := by
  have e1 : (w.alloc (.cells #[.int .i64 1, .bool false, .int .u64 5, .slice none 0 0] 36)).heap[w.heap.size]? = some (.cells #[.int .i64 1, .bool false, .int .u64 5, .slice none 0 0] 36) := by
    simp only [World.alloc, Array.getElem?_push]
    rw [if_pos trivial]
  refine ⟨.inr ⟨w.heap.size, 0, rfl, lt_of_heap e1, fun j hj => ?_⟩, fun p hp => ?_⟩
  · rw [Nat.zero_add, cell_of_row _ _ j _ _ _ e1]
    simp only [flat, List.getElem?_toArray]; rfl
  · obtain rfl := List.mem_singleton.1 hp
    exact ⟨by simp, ⟨none, 0, rfl, by simp, Bytes.none _ _⟩, by simp⟩
theorem head_encs1 : encs ([((⟨1, false, 5, []⟩ : Fld), Value.slice none 0 0)].map Prod.fst) 0 [] = ([2, 5], 0) := by
  show encs [⟨1, false, 5, []⟩] 0 [] = _
  decide
set_option maxRecDepth 20000 in
set_option maxHeartbeats 1000000 in
theorem walk (L : List (Fld × Value)) (a : Option Addr) (cap : Nat) (w : World) (hfs : FsAt w a L) (hc : L.length ≤ cap ∧ cap * 48 ≤ 140737488351232 ∧ ∀ p ∈ L, p.1.bytes.length ≤ 140737488351232) :
    Calls Try.prog 4 #[.slice a L.length cap] w fun r w' => r = .returned (.bool true) ∧ Below w.heap.size w w' := by
  obtain ⟨hc1, hc2, hc3⟩ := hc
  have HF : Hid (FsAt w a L) := hfs
  have HBL : Hid (∀ p ∈ L, p.1.bytes.length ≤ 281474976710656) := fun p hp => Nat.le_trans (hc3 p hp) (by omega)
  have HOK : Hid (∀ p ∈ L, p.1.num ≤ 18446744073709551615 ∧ p.1.bytes.length ≤ maxLen) := fun p hp => ⟨(hfs.fok p hp).num, (hfs.fok p hp).len⟩
  obtain ⟨n, hn⟩ : ∃ n, L.length = n := ⟨_, rfl⟩
  have HN : Hid (L.length = n) := hn
  rw [hn] at hc1 ⊢
  have hn48 : n * 48 ≤ 140737488351232 := by omega
  have hnm : n ≤ maxLen := by unfold maxLen; omega
  have hr0 : (encs (L.map Prod.fst) 0 []).1.length ≤ 1024 := encs_small _
  obtain ⟨r0, e, hre⟩ : ∃ r0 e, encs (L.map Prod.fst) 0 [] = (r0, e) := ⟨_, _, rfl⟩
  have HE : Hid (encs (L.map Prod.fst) 0 [] = (r0, e)) := hre
  rw [hre] at hr0
  have hrm : r0.length ≤ maxLen := by unfold maxLen; simp only at hr0; omega
  have HZ : Hid (e ≠ 0 → r0 = []) := fun he => by have h := encs_err (L.map Prod.fst) 0 [] (by rw [HE.out]; exact he); rw [HE.out] at h; exact h
  have HMO : Hid (∀ M : List (Fld × Value), M.map Prod.fst = L.map Prod.fst → ∀ p ∈ M, p.1.num ≤ 18446744073709551615 ∧ p.1.bytes.length ≤ maxLen) := by
    intro M hM p hp
    have h1 : p.1 ∈ L.map Prod.fst := by rw [← hM]; exact List.mem_map_of_mem hp
    obtain ⟨q, hq, hqe⟩ := List.mem_map.1 h1
    rw [← hqe]
    exact HOK.out q hq
  have HML : Hid (∀ M : List (Fld × Value), M.map Prod.fst = L.map Prod.fst → M.length = n) := by
    intro M hM
    have h := congrArg List.length hM
    simp only [List.length_map] at h
    rw [h, HN.out]
  clear hfs hc3 hn hre hr0
  go_enter Try.func4, Try.ntmps4
  go_wp2_with (first
    | (go_at_call 15; refine (mustof [(⟨1, false, 5, []⟩, .slice none 0 0)] _ 1 1 _ rfl (head_fs1 w) (by omega) [2, 5] 0 head_encs1 (fun h => absurd rfl h)).mono ?_; rintro r w1 ⟨v1, rfl, ho1, hb1⟩; obtain ⟨a1, cap1, rfl, _, _, _, _⟩ := ho1.shape; have HB1 : Hid (Below w.heap.size w w1) := ((Below.refl _ _).alloc (Nat.le_refl _) _).trans (hb1.mono (by simp)); clear ho1 hb1)
    | (go_at_call 11; refine (rtenc L a n cap w1 HN.out (HF.out.keep HB1.out) (by omega)).mono ?_; rw [HE.out]; rintro r w3 ⟨v3, rfl, ho3, hb3⟩; obtain ⟨a3, cap3, rfl, hcap3, _, hby3, _⟩ := ho3.shape; have HB3 : Hid (Below w.heap.size w w3) := HB1.out.trans (hb3.mono HB1.out.size); have HY3 : Hid (Bytes w3 a3 r0) := hby3; clear ho3 hb3 hby3)
    | (go_at_call 10; refine (rcopyE L a n cap w3 HN.out (HF.out.keep HB3.out) hn48 HBL.out).mono ?_; rintro r w2 ⟨v2, M, rfl, hM, hr2, hb2⟩; have HM : Hid (M.map Prod.fst = L.map Prod.fst) := hM; obtain ⟨a2, cap2, rfl, hfs2⟩ := hr2.fs (HMO.out M HM.out); have HB2 : Hid (Below w.heap.size w w2) := HB3.out.trans (hb2.mono HB3.out.size); have HF2 : Hid (FsAt w2 a2 M) := hfs2; have HY2 : Hid (Bytes w2 a3 r0) := HY3.out.keep hb2; clear hM hr2 hb2 hfs2)
    | (go_at_call 15; refine (mustof M _ _ _ _ rfl HF2.out (by rw [HML.out M HM.out]; omega) r0 e (by rw [HM.out]; exact HE.out) HZ.out).mono ?_; rintro r w4 ⟨v4, rfl, ho4, hb4⟩; obtain ⟨a4, cap4, rfl, hcap4, _, hby4, _⟩ := ho4.shape; have HB4 : Hid (Below w.heap.size w w4) := HB2.out.trans (hb4.mono HB2.out.size); have HY4 : Hid (Bytes w4 a4 r0) := hby4; have HZ4 : Hid (Bytes w4 a3 r0) := HY2.out.keep hb4; clear ho4 hb4 hby4)
    | (go_at_call 13; refine (same_at r0 r0 _ _ _ _ _ _ _ rfl rfl HY4.out HZ4.out hrm hrm).mono ?_; rw [decide_eq_true rfl]; rintro r w6 ⟨rfl, m6, rfl⟩))
  go_ret
  exact ⟨rfl, below_drewN HB4.out _⟩
theorem own : ownKnob Try.prog.godebug = none := by kernel_rfl
theorem laidOut : laidOutB Try.prog = true := by kernel_rfl
set_option maxRecDepth 100000 in
theorem contract (H : Type) (enc : TypeId × Value → H) (W : World) (base : Nat) (args : Array Value) (ds gs : List (DataW H)) (before : List MemPlace)
    (hval : ∀ (j : Nat) t v, Try.f4.params[j]? = some t → args[j]? = some v → Value.okWide Try.prog W .any base t v)
    (hW : DataW.Whole enc Try.prog Try.f4.params.toList Rows.tlvMustSpec.vars false W args.toList ds gs before)
    (hsz : (DataW.weightsEach Try.prog (Try.f4.params.toList ++ Rows.tlvMustSpec.plain.varTypes Try.prog) (ds ++ gs)).all (· ≤ reachBytes) = true) :
    Calls Try.prog 4 args W fun e W' => ∃ v, e = .returned v ∧ Rows.tlvMustSpec.post enc Try.prog Try.f4 false true false false W args v W' := by
  have hW' := hW
  obtain ⟨p, q, hA0, hV, rfl, hfz, hnd⟩ := hW
  have hA : DataW.TrodAll enc Try.prog W 0 (fun _ => true) true Try.f4.params.toList args.toList ds p := hA0
  rw [Try.params4] at hA hval hsz
  obtain ⟨v0, vs0, d0, ds0, p0, q0, hargs, rfl, rfl, h0, r0⟩ := trodAll_cons hA
  obtain ⟨rfl, rfl, rfl⟩ := trodAll_nil r0
  obtain rfl : args = #[v0] := by cases args; simp_all
  obtain ⟨rfl, rfl⟩ := trodVars_none hV
  obtain ⟨a0, len0, cap0, rfl⟩ := okWide_slice Try.underlying22 (hval 0 22 v0 rfl rfl)
  have k0 := h0
  have lt0 : ∀ x ∈ p0, x.block < W.heap.size := by obtain ⟨m, hm⟩ := k0; exact DataW.trod_lt m _ _ _ hm
  obtain ⟨l0, hlen0, w0, c0⟩ : ∃ L : List (Fld × Value), L.length = len0 ∧ FsAt W a0 L ∧ (len0 ≤ cap0 ∧ cap0 * 48 ≤ 140737488351232 ∧ ∀ p ∈ L, p.1.bytes.length ≤ 140737488351232) := by
    obtain ⟨fuel, hf⟩ := h0
    rcases open_fields hf with ⟨hcs, hx⟩ | ⟨x, l, c, L, D, hcs, hl, hm, hLl, hfs, hx, hD⟩
    · simp [Value.cells] at hcs
      obtain ⟨rfl, rfl, rfl⟩ := hcs
      exact ⟨[], rfl, ⟨.inl rfl, fun p hp => by cases hp⟩, Nat.le_refl _, by simp, fun p hp => by cases hp⟩
    · simp [Value.cells] at hcs
      obtain ⟨rfl, rfl, rfl⟩ := hcs
      have hd : d0 = _ := hx
      obtain ⟨s1, s2⟩ := sized_fields hsz (j := 0) rfl (by rw [hd]; rfl) hl hLl hD
      exact ⟨L, hLl, hfs, hl, s1, s2⟩
  subst hlen0
  clear hA0
  refine (walk l0 a0 cap0 W w0 c0).mono fun e W' ⟨he, bel⟩ => ?_
  subst he
  exact ⟨_, rfl, _, _, _, [], _, [], hW', trodAll_mk1 (shut_bool Try.underlying4 _), (trodAll_cons_mk (Below.trod laidOut (by kernel_rfl) (of_decide_eq_true (by kernel_rfl)) k0 bel lt0) trodAll_mk0), rfl, bel.frame _, fun h => by cases h⟩
set_option maxRecDepth 100000 in
theorem lifted (os : Os) (started : os.Started) (H : Type) (enc : TypeId × Value → H) :
    ReturnsInHanded {} Try.checked os 4 .any (Rows.tlvMustSpec.pre6 enc Try.prog Try.f4 Rows.tlvMustRow.domain false) (Rows.tlvMustSpec.post enc Try.prog Try.f4 false true false false) := by
  refine returnsInHanded_of_change_sized (C := Try.checked) own started (by kernel_rfl) Try.func4
    (ChangeSpec.witness6 (enc := enc) (C := Try.checked) false ⟨#[], #[.slice none 0 0], []⟩ 8 (by kernel_rfl) (by kernel_rfl) (by kernel_rfl) (by kernel_rfl)) ?_
  intro W base args ds gs before hval hW _ hsz _
  exact contract H enc W base args ds gs before hval hW hsz
theorem over : Rows.tlvMustRow.holds Try.pinned (OpenSpec.ofChange Rows.tlvMustSpec) :=
  OpenClaim.holds_of_wide 4 Try.f4 rfl rfl rfl rfl rfl rfl rfl ⟨rfl, rfl, rfl, rfl, rfl⟩ rfl rfl rfl rfl rfl (by kernel_rfl) Try.func4 (by kernel_rfl)
    (of_decide_eq_true (by kernel_rfl)) (by unfold Func.isWrapper; first | (rw [if_pos (by decide +kernel)]; kernel_rfl) | (rw [if_neg (by decide +kernel)]; exact ⟨rfl, rfl⟩))
    (fun os started H enc _ => lifted os started H enc)
theorem proved : Rows.TlvMustSaid := over
end Go.Proofs.Ytdfknehdnkmlgaa.tlvMust
