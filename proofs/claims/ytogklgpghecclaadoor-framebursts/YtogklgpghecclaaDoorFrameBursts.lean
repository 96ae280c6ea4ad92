/- For every frame, every place and every run of up to 32 turned bits: the turned frame is never read, and told by its mark or its sums; unturned it is read. No condition. -/
import Derived.Test.YtogklgpghecclaaDoorCrcTie
import Derived.Test.YtogklgpghecclaaDoorFr5
import Derived.Test.YtogklgpghecclaaDoorFrb
import Derived.Test.YtogklgpghecclaaDoorCopy
import Derived.Test.YtogklgpghecclaaDoorSame
import Derived.SizedLaws
import Derived.ChangeOld
namespace Go.Proofs.YtogklgpghecclaaDoor.frameBursts
open Go.ChangeShapes Go.WideShapes Go.ChangeAt Go.RowKit
set_option linter.unusedVariables false
theorem dv_cases (k s : Nat) (body t : List Nat) (at0 P : Nat) (hb : ∀ y ∈ body, y < 256) (hk1 : 1 ≤ k) (hk7 : k ≤ 7) (hn : body.length ≤ 16384) (hs : s ≤ 1099511627776) (ht : ∀ x ∈ t, x < 256) (htl : t.length = (frameL k s body).length)
    (hP : P < 4294967296) (hat : at0 < 8 * (frameL k s body).length) (hv : Crcm.val t = Crcm.val (frameL k s body) ^^^ turned at0 P (8 * (frameL k s body).length - at0) 32) :
    ∃ (kk ss N0 e0 : Int), (∀ v, DV t v = .tuple #[FrV kk ss v, .int .i64 N0, .int .i64 e0]) ∧ ((decide (t = frameL k s body) = true ∧ N0 = ((body.length + 20 : Nat) : Int) ∧ e0 = 0) ∨ (decide (t = frameL k s body) = false ∧ N0 = 0 ∧ e0 = 61) ∨ (decide (t = frameL k s body) = false ∧ N0 = 0 ∧ e0 = 62)) := by
  by_cases h : t = frameL k s body
  · refine ⟨k, s, ((body.length + 20 : Nat) : Int), 0, fun v => ?_, .inl ⟨decide_eq_true h, rfl, rfl⟩⟩
    have := (dv_laid k s body [] v hb hk1 hk7 hn hs).1
    rw [List.append_nil] at this
    rw [h]; exact this
  · have hd : decide (t = frameL k s body) = false := decide_eq_false h
    rcases burst_frame k s body t at0 P hb hk1 hk7 hn hs ht htl hP hat hv h with h1 | h1
    · exact ⟨0, 0, 0, 61, fun v => (dv_none t v 61 h1 (by decide)).1, .inr (.inl ⟨hd, rfl, rfl⟩)⟩
    · exact ⟨0, 0, 0, 62, fun v => (dv_none t v 62 h1 (by decide)).1, .inr (.inr ⟨hd, rfl, rfl⟩)⟩
set_option maxRecDepth 20000 in
set_option maxHeartbeats 1000000 in
theorem walk (kind seq : Int) (l : List Nat) (a : Option Addr) (cap : Nat) (at1 a4 : Int) (w : World) (w0 : (Lit.int .i64 kind).wf = true) (w1 : (Lit.int .i64 seq).wf = true) (hb : Bytes w a l) (hc : Came w a l.length cap 1) (w3 : (Lit.int .i64 at1).wf = true) (w4 : (Lit.int .u32 a4).wf = true) (ht : Tab w) :
    Calls Tryd.prog 7 #[.int .i64 kind, .int .i64 seq, .slice a l.length cap, .int .i64 at1, .int .u32 a4] w fun e w' => e = .returned (.bool true) ∧ Below w.heap.size w w' := by
  obtain ⟨hf, hr, hn⟩ := hc
  have b4 : 0 ≤ a4 ∧ a4 ≤ 4294967295 := by simpa [Lit.wf, IntKind.min, IntKind.max, IntKind.signed, IntKind.bits] using w4
  obtain ⟨P, rfl⟩ := Int.eq_ofNat_of_zero_le b4.1
  have HP : Hid (P < 4294967296) := by show _ < _; omega
  have hl : l.length ≤ 140737488351232 := by omega
  have HB : Hid (Bytes w a l) := hb
  have HT : Hid (Tab w) := ht
  obtain ⟨n, hN⟩ : ∃ n, l.length = n := ⟨_, rfl⟩
  have HN : Hid (l.length = n) := hN
  rw [hN] at hl hf ⊢
  have HCP : Hid (∀ w1, Below w.heap.size w w1 → Calls Tryd.prog 11 #[.slice a n cap] w1 fun e w' => ∃ v, e = .returned v ∧ Own w' w1.heap.size v l ∧ Below w1.heap.size w1 w') := fun w1 hb1 => by
    have := copy_any l a cap w1 (hb.keep hb1) (by rw [hN]; omega)
    rw [hN] at this
    exact this
  have HEN : Hid (∀ w1 a1 c1, Below w.heap.size w w1 → Bytes w1 a1 l → ((a1 = none ∧ l = [] ∧ c1 = 0) ∨ ∃ g, a1 = some ⟨g, 0, none⟩) → Calls Tryd.prog 13 #[FrV kind seq (.slice a1 n c1)] w1 fun r w' => ∃ v, r = .returned (.tuple #[v, .int .i64 (encE kind seq n : Nat)]) ∧ Own w' w1.heap.size v (encL kind seq l) ∧ Below w1.heap.size w1 w') := fun w1 a1 c1 hb1 hy1 hs1 => fenc_any kind seq l n a1 c1 w1 hN hy1 (fun h => by rcases hs1 with h2 | ⟨g, h2⟩; exact h2.2.2; rw [h] at h2; cases h2) (by omega) (fun x h => by rcases hs1 with h2 | ⟨g, h2⟩; rw [h2.1] at h; cases h; rw [h2] at h; cases h; exact ⟨g, 0, rfl⟩) (ht.keep hb1)
  clear hb ht hN w0 w1 w3 w4 b4
  by_cases hE : encE kind seq n = 0
  · have hx := hE
    unfold encE at hx
    have h1 : inB kind seq = true := by
      by_cases h : inB kind seq = false
      · rw [if_pos h] at hx; omega
      · simpa using h
    rw [if_neg (by rw [h1]; simp)] at hx
    have h2 : ¬ 16384 < n := fun h => by rw [if_pos h] at hx; omega
    obtain ⟨k1, k7, s0, s1⟩ := of_decide_eq_true h1
    obtain ⟨k, rfl⟩ := Int.eq_ofNat_of_zero_le (show 0 ≤ kind by omega)
    obtain ⟨s, rfl⟩ := Int.eq_ofNat_of_zero_le s0
    have hk1 : 1 ≤ k := by omega
    have hk7 : k ≤ 7 := by omega
    have hs1 : s ≤ 1099511627776 := by omega
    have HN4 : Hid (l.length ≤ 16384) := by show _ ≤ _; rw [HN.out]; omega
    have HE : Hid (encE (k : Int) (s : Int) n = 0) := hE
    have HEL : Hid (encL (k : Int) (s : Int) l = frameL k s l) := by show _ = _; unfold encL; rw [HN.out, hE, if_pos rfl]; rfl
    obtain ⟨L, hL⟩ : ∃ L, n + 20 = L := ⟨_, rfl⟩
    have HFL : Hid ((frameL k s l).length = L) := by show _ = _; rw [frameL_length, HN.out, hL]
    have HLN : Hid (l.length + 20 = L) := by show _ = _; rw [HN.out, hL]
    have hL1 : L ≤ 16404 := by omega
    have hL0 : 20 ≤ L := by omega
    have HFN : Hid (frameL k s l ≠ []) := by intro h; have := HFL.out; rw [h] at this; simp at this; omega
    have hLI : (L : Int) ≤ 16404 := by omega
    clear hE hx h1 h2 k1 k7 s0 s1 hL
    by_cases hneg : at1 < 0
    · go_enter Tryd.func7, Tryd.ntmps7
      go_wp2_with (first
        | (go_at_call 9; refine (head11_any w HT.out).mono ?_; rintro e w1 ⟨rfl, hb1⟩; have HB1 : Hid (Below w.heap.size w w1) := hb1; clear hb1)
        | (go_at_call 11; refine (HCP.out _ HB1.out).mono ?_; rintro e w2 ⟨v2, rfl, ho2, hb2⟩; obtain ⟨a2, c2, hv2, hc2, _, hy2, hs2⟩ := ho2.shape; rw [HN.out] at hv2 hc2; subst hv2; have HB2 : Hid (Below w.heap.size w w2) := below_next HB1.out hb2; have HY2 : Hid (Bytes w2 a2 l) := hy2; have HS2 : Hid ((a2 = none ∧ l = [] ∧ c2 = 0) ∨ ∃ g, a2 = some ⟨g, 0, none⟩) := hs2.elim .inl (fun ⟨g, h, _⟩ => .inr ⟨g, h⟩); clear ho2 hb2 hy2 hs2)
        | (go_at_call 13; refine (HEN.out _ _ _ HB2.out HY2.out HS2.out).mono ?_; rw [HE.out]; rintro r w3 ⟨v3, rfl, ho3, hb3⟩; rw [HEL.out] at ho3; obtain ⟨g3, c3, hv3, hc3, hy3⟩ := ho3.row HFN.out; rw [HFL.out] at hv3 hc3; subst hv3; have HB3 : Hid (Below w.heap.size w w3) := below_next HB2.out hb3; have HY3 : Hid (Bytes w3 (some ⟨g3, 0, none⟩) (frameL k s l)) := hy3; clear ho3 hb3 hy3))
      go_ret
      exact ⟨rfl, HB3.out⟩
    by_cases hbig : 8 * (L : Int) ≤ at1
    · go_enter Tryd.func7, Tryd.ntmps7
      go_wp2_with (first
        | (go_at_call 9; refine (head11_any w HT.out).mono ?_; rintro e w1 ⟨rfl, hb1⟩; have HB1 : Hid (Below w.heap.size w w1) := hb1; clear hb1)
        | (go_at_call 11; refine (HCP.out _ HB1.out).mono ?_; rintro e w2 ⟨v2, rfl, ho2, hb2⟩; obtain ⟨a2, c2, hv2, hc2, _, hy2, hs2⟩ := ho2.shape; rw [HN.out] at hv2 hc2; subst hv2; have HB2 : Hid (Below w.heap.size w w2) := below_next HB1.out hb2; have HY2 : Hid (Bytes w2 a2 l) := hy2; have HS2 : Hid ((a2 = none ∧ l = [] ∧ c2 = 0) ∨ ∃ g, a2 = some ⟨g, 0, none⟩) := hs2.elim .inl (fun ⟨g, h, _⟩ => .inr ⟨g, h⟩); clear ho2 hb2 hy2 hs2)
        | (go_at_call 13; refine (HEN.out _ _ _ HB2.out HY2.out HS2.out).mono ?_; rw [HE.out]; rintro r w3 ⟨v3, rfl, ho3, hb3⟩; rw [HEL.out] at ho3; obtain ⟨g3, c3, hv3, hc3, hy3⟩ := ho3.row HFN.out; rw [HFL.out] at hv3 hc3; subst hv3; have HB3 : Hid (Below w.heap.size w w3) := below_next HB2.out hb3; have HY3 : Hid (Bytes w3 (some ⟨g3, 0, none⟩) (frameL k s l)) := hy3; clear ho3 hb3 hy3))
      go_ret
      exact ⟨rfl, HB3.out⟩
    obtain ⟨at0, rfl⟩ := Int.eq_ofNat_of_zero_le (show 0 ≤ at1 by omega)
    have HAT : Hid (at0 < 8 * (frameL k s l).length) := by show _ < _; rw [HFL.out]; omega
    go_enter Tryd.func7, Tryd.ntmps7
    go_wp2_with (first
      | (go_at_call 9; refine (head11_any w HT.out).mono ?_; rintro e w1 ⟨rfl, hb1⟩; have HB1 : Hid (Below w.heap.size w w1) := hb1; clear hb1)
      | (go_at_call 11; refine (HCP.out _ HB1.out).mono ?_; rintro e w2 ⟨v2, rfl, ho2, hb2⟩; obtain ⟨a2, c2, hv2, hc2, _, hy2, hs2⟩ := ho2.shape; rw [HN.out] at hv2 hc2; subst hv2; have HB2 : Hid (Below w.heap.size w w2) := below_next HB1.out hb2; have HY2 : Hid (Bytes w2 a2 l) := hy2; have HS2 : Hid ((a2 = none ∧ l = [] ∧ c2 = 0) ∨ ∃ g, a2 = some ⟨g, 0, none⟩) := hs2.elim .inl (fun ⟨g, h, _⟩ => .inr ⟨g, h⟩); clear ho2 hb2 hy2 hs2)
      | (go_at_call 13; refine (HEN.out _ _ _ HB2.out HY2.out HS2.out).mono ?_; rw [HE.out]; rintro r w3 ⟨v3, rfl, ho3, hb3⟩; rw [HEL.out] at ho3; obtain ⟨g3, c3, hv3, hc3, hy3⟩ := ho3.row HFN.out; rw [HFL.out] at hv3 hc3; subst hv3; have HB3 : Hid (Below w.heap.size w w3) := below_next HB2.out hb3; have HY3 : Hid (Bytes w3 (some ⟨g3, 0, none⟩) (frameL k s l)) := hy3; clear ho3 hb3 hy3)
      | (go_at_call 22; refine (turn_any (frameL k s l) at0 P L g3 0 c3 _ HFL.out HY3.out HFN.out (by rw [HFL.out]; omega) HAT.out HP.out).mono ?_; rintro r w5 ⟨v5, t, rfl, htl, ho5, hval, hb5⟩; obtain ⟨a5, c5, hv5, hc5, _, hy5, _⟩ := ho5.shape; rw [htl, HFL.out] at hv5 hc5; subst hv5; have HTL : Hid (t.length = L) := htl.trans HFL.out; obtain ⟨kk, ss, N0, e0, hdv, hcase⟩ := dv_cases k s l t at0 P HB.out.mem hk1 hk7 HN4.out hs1 hy5.mem htl HP.out HAT.out hval; have HDV : Hid (∀ v, DV t v = .tuple #[FrV kk ss v, .int .i64 N0, .int .i64 e0]) := hdv; have HB5 : Hid (Below w.heap.size w w5) := below_next HB3.out hb5; have HY5 : Hid (Bytes w5 a5 t) := hy5; have HY6 : Hid (Bytes w5 (some ⟨g3, 0, none⟩) (frameL k s l)) := HY3.out.keep hb5; clear ho5 hb5 hy5 hval htl hdv; rw [HLN.out] at hcase; rcases hcase with ⟨hd, rfl, rfl⟩ | ⟨hd, rfl, rfl⟩ | ⟨hd, rfl, rfl⟩ <;> have HD : Hid (decide (t = frameL k s l) = _) := hd <;> clear hd)
      | (go_at_call 18; refine (fdec_any t L a5 c5 _ HTL.out HY5.out (by rw [HTL.out]; omega) (by rw [HTL.out]; omega) (HT.out.keep HB5.out)).mono ?_; rintro r w6 ⟨v6, rfl, ho6, hb6⟩; rw [HDV.out v6]; obtain ⟨a6, c6, hv6, _⟩ := ho6.shape; subst hv6; have HB6 : Hid (Below w.heap.size w w6) := below_next HB5.out hb6; have HY7 : Hid (Bytes w6 a5 t) := HY5.out.keep hb6; have HY8 : Hid (Bytes w6 (some ⟨g3, 0, none⟩) (frameL k s l)) := HY6.out.keep hb6; clear ho6 hb6)
      | (go_at_call 14; refine (same_at t (frameL k s l) _ _ _ _ _ _ _ HTL.out HFL.out (HY7.out.keep ((Below.refl _ _).alloc (Nat.le_refl _) _)) (HY8.out.keep ((Below.refl _ _).alloc (Nat.le_refl _) _)) (by rw [HTL.out]; unfold maxLen; omega) (by rw [HFL.out]; unfold maxLen; omega)).mono ?_; rw [HD.out]; rintro r w7 ⟨rfl, nq, rfl⟩))
    all_goals go_ret
    all_goals exact ⟨rfl, below_drewN (HB6.out.alloc HB6.out.size _) nq⟩
  · obtain ⟨e0, he⟩ : ∃ e, encE kind seq n = e := ⟨_, rfl⟩
    have HE : Hid (encE kind seq n = e0) := he
    have heI : ((e0 : Int) != 0) = true := by simp; omega
    clear hE he
    go_enter Tryd.func7, Tryd.ntmps7
    go_wp2_with (first
      | (go_at_call 9; refine (head11_any w HT.out).mono ?_; rintro e w1 ⟨rfl, hb1⟩; have HB1 : Hid (Below w.heap.size w w1) := hb1; clear hb1)
      | (go_at_call 11; refine (HCP.out _ HB1.out).mono ?_; rintro e w2 ⟨v2, rfl, ho2, hb2⟩; obtain ⟨a2, c2, hv2, hc2, _, hy2, hs2⟩ := ho2.shape; rw [HN.out] at hv2 hc2; subst hv2; have HB2 : Hid (Below w.heap.size w w2) := below_next HB1.out hb2; have HY2 : Hid (Bytes w2 a2 l) := hy2; have HS2 : Hid ((a2 = none ∧ l = [] ∧ c2 = 0) ∨ ∃ g, a2 = some ⟨g, 0, none⟩) := hs2.elim .inl (fun ⟨g, h, _⟩ => .inr ⟨g, h⟩); clear ho2 hb2 hy2 hs2)
      | (go_at_call 13; refine (HEN.out _ _ _ HB2.out HY2.out HS2.out).mono ?_; rw [HE.out]; rintro r w3 ⟨v3, rfl, ho3, hb3⟩; have HB3 : Hid (Below w.heap.size w w3) := below_next HB2.out hb3; clear ho3 hb3))
    go_ret
    exact ⟨rfl, HB3.out⟩
theorem own : ownKnob Tryd.prog.godebug = none := by kernel_rfl
theorem laidOut : laidOutB Tryd.prog = true := by kernel_rfl
set_option maxRecDepth 100000 in
theorem contract (H : Type) (enc : TypeId × Value → H) (W : World) (base : Nat) (args : Array Value) (ds gs : List (DataW H)) (before : List MemPlace)
    (hval : ∀ (j : Nat) t v, Tryd.f7.params[j]? = some t → args[j]? = some v → Value.okWide Tryd.prog W .any base t v)
    (hW : DataW.Whole enc Tryd.prog Tryd.f7.params.toList Rows.frameBurstsSpec.vars false W args.toList ds gs before)
    (hsz : (DataW.weightsEach Tryd.prog (Tryd.f7.params.toList ++ Rows.frameBurstsSpec.plain.varTypes Tryd.prog) (ds ++ gs)).all (· ≤ reachBytes) = true) (hL : laidMetH Tryd.prog ([("daybook/crc.halves", Rows.laid_daybook_crc_halves)]) W) :
    Calls Tryd.prog 7 args W fun e W' => ∃ v, e = .returned v ∧ Rows.frameBurstsSpec.post enc Tryd.prog Tryd.f7 false true false false W args v W' := by
  have hW' := hW
  obtain ⟨p, q, hA0, hV, rfl, hfz, hnd⟩ := hW
  have hA : DataW.TrodAll enc Tryd.prog W 0 (fun _ => true) true Tryd.f7.params.toList args.toList ds p := hA0
  rw [Tryd.params7] at hA hval hsz
  obtain ⟨v0, vs0, d0, ds0, p0, q0, hargs, rfl, rfl, h0, r0⟩ := trodAll_cons hA
  obtain ⟨v1, vs1, d1, ds1, p1, q1, rfl, rfl, rfl, h1, r1⟩ := trodAll_cons r0
  obtain ⟨v2, vs2, d2, ds2, p2, q2, rfl, rfl, rfl, h2, r2⟩ := trodAll_cons r1
  obtain ⟨v3, vs3, d3, ds3, p3, q3, rfl, rfl, rfl, h3, r3⟩ := trodAll_cons r2
  obtain ⟨v4, vs4, d4, ds4, p4, q4, rfl, rfl, rfl, h4, r4⟩ := trodAll_cons r3
  obtain ⟨rfl, rfl, rfl⟩ := trodAll_nil r4
  obtain rfl : args = #[v0, v1, v2, v3, v4] := by cases args; simp_all
  obtain ⟨rfl, rfl⟩ := trodVars_none hV
  obtain ⟨a0, rfl, rfl, rfl, w0⟩ := open_int Tryd.underlying3 (hval 0 3 v0 rfl rfl) h0
  obtain ⟨a1, rfl, rfl, rfl, w1⟩ := open_int Tryd.underlying3 (hval 1 3 v1 rfl rfl) h1
  obtain ⟨a2, len2, cap2, rfl⟩ := okWide_slice Tryd.underlying22 (hval 2 22 v2 rfl rfl)
  have k2 := h2
  have lt2 : ∀ x ∈ p2, x.block < W.heap.size := by obtain ⟨m, hm⟩ := k2; exact DataW.trod_lt m _ _ _ hm
  obtain ⟨l2, hlen2, w2, c2⟩ : ∃ l : List Nat, l.length = len2 ∧ Bytes W a2 l ∧ Came W a2 len2 cap2 1 := by
    obtain ⟨fuel, hf⟩ := h2
    rcases open_ints Tryd.underlying22 Tryd.underlying5 (by kernel_rfl) hf with ⟨hcs, hx⟩ | ⟨x, l, c, zs, hcs, _, hl, hm, hz, hx, hcell, hwz⟩
    · simp [Value.cells] at hcs
      obtain ⟨rfl, rfl, rfl⟩ := hcs
      exact ⟨[], rfl, ⟨by simp, .inl rfl⟩, ⟨Nat.le_refl _, by simp, fun _ => rfl⟩⟩
    · simp [Value.cells] at hcs
      obtain ⟨rfl, rfl, rfl⟩ := hcs
      have hz2 : zs.length = cap2 := by simpa using hz
      obtain ⟨ll, e1, e2, e3⟩ := row_nats .u8 256 (by decide) wf_u8 W x zs len2 (by omega) hcell hwz
      have hd : d2 = .slice (lits .u8 (zs.take len2)) (lits .u8 (zs.drop len2)) := (Prod.mk.inj hx).1
      have hreach : cap2 * 1 ≤ 140737488351232 := by
        have := sized_slice hsz (j := 2) (t := 22) (e := 5) rfl (by rw [hd]; rfl) Tryd.underlying22
        rw [show Tryd.prog.bytesOf 5 = 1 from by kernel_rfl] at this
        simp only [lits, List.length_map, List.length_take, List.length_drop, reachBytes] at this
        have hmin : min len2 zs.length = len2 := Nat.min_eq_left (by omega)
        rw [hmin] at this
        have hcap : len2 + (zs.length - len2) = cap2 := by omega
        rw [hcap] at this
        exact this
      exact ⟨ll, e1, ⟨e2, e3⟩, ⟨hl, hreach, fun h => by cases h⟩⟩
  subst hlen2
  obtain ⟨a3, rfl, rfl, rfl, w3⟩ := open_int Tryd.underlying3 (hval 3 3 v3 rfl rfl) h3
  obtain ⟨a4, rfl, rfl, rfl, w4⟩ := open_int Tryd.underlying51 (hval 4 51 v4 rfl rfl) h4
  clear hA0
  refine (walk a0 a1 l2 a2 cap2 a3 a4 W w0 w1 w2 c2 w3 w4 (tab_of hL)).mono fun e W' ⟨he, bel⟩ => ?_
  subst he
  exact ⟨_, rfl, _, _, _, [], _, [], hW', trodAll_mk1 (shut_bool Tryd.underlying4 _), (trodAll_cons_mk (shut_int Tryd.underlying3 w0) (trodAll_cons_mk (shut_int Tryd.underlying3 w1) (trodAll_cons_mk (Below.trod laidOut (by kernel_rfl) (of_decide_eq_true (by kernel_rfl)) k2 bel lt2) (trodAll_cons_mk (shut_int Tryd.underlying3 w3) (trodAll_cons_mk (shut_int Tryd.underlying51 w4) trodAll_mk0))))), rfl, bel.frame _, fun h => by cases h⟩
set_option maxRecDepth 100000 in
theorem start (os : Os) : ∃ w0 : World, w0.os = os ∧ (w0.forCall (fun _ _ => 0) ⟨#[], #[.int .i64 0, .int .i64 0, .slice none 0 0, .int .i64 0, .int .u32 0], []⟩).variablesB Tryd.prog = true ∧
    ((w0.forCall (fun _ _ => 0) ⟨#[], #[.int .i64 0, .int .i64 0, .slice none 0 0, .int .i64 0, .int .u32 0], []⟩).heap.toList.drop Tryd.prog.globals.size).take ((begin Tryd.prog (fun _ _ => 0) default).world.heap.size - Tryd.prog.globals.size) = (begin Tryd.prog (fun _ _ => 0) default).world.heap.toList.drop Tryd.prog.globals.size ∧
    Input.okWideB Tryd.prog (w0.forCall (fun _ _ => 0) ⟨#[], #[.int .i64 0, .int .i64 0, .slice none 0 0, .int .i64 0, .int .u32 0], []⟩) 7 ⟨#[], #[.int .i64 0, .int .i64 0, .slice none 0 0, .int .i64 0, .int .u32 0], []⟩ = true ∧
    laidMet Tryd.prog Rows.frameBurstsRow.laid (w0.forCall (fun _ _ => 0) ⟨#[], #[.int .i64 0, .int .i64 0, .slice none 0 0, .int .i64 0, .int .u32 0], []⟩).memory ∧
    ∀ (H : Type) (enc : TypeId × Value → H), DataW.whole enc Tryd.prog (w0.forCall (fun _ _ => 0) ⟨#[], #[.int .i64 0, .int .i64 0, .slice none 0 0, .int .i64 0, .int .u32 0], []⟩).memory Tryd.f7.params.toList Rows.frameBurstsSpec.vars false (#[.int .i64 0, .int .i64 0, .slice none 0 0, .int .i64 0, .int .u32 0] : Array Value).toList 8 = some ([.lit (.int .i64 0), .lit (.int .i64 0), .nil, .lit (.int .i64 0), .lit (.int .u32 0)], [], []) :=
  ⟨{ World.holding Tryd.prog os ⟨#[], #[], []⟩ with heap := (World.holding Tryd.prog os ⟨#[], #[], []⟩).heap.modify 0 fun
      | .cells _ t frozen => .cells #[.int .u32 0, .int .u32 498536548, .int .u32 997073096, .int .u32 651767980, .int .u32 1994146192, .int .u32 1802195444, .int .u32 1303535960, .int .u32 1342533948, .int .u32 3988292384, .int .u32 4027552580, .int .u32 3604390888, .int .u32 3412177804, .int .u32 2607071920, .int .u32 2262029012, .int .u32 2685067896, .int .u32 3183342108] t frozen
      | o => o }, rfl, by kernel_rfl, by kernel_rfl, by kernel_rfl, laidMet_of_run' 8 (by kernel_rfl) (by kernel_rfl), fun _ _ => by kernel_rfl⟩
set_option maxRecDepth 100000 in
theorem lifted (os : Os) (started : os.Started) (H : Type) (enc : TypeId × Value → H) (F : Stop.Interp) :
    ReturnsInHanded {} Tryd.checked os 7 .any ((OpenSpec.ofChange Rows.frameBurstsSpec).preRow enc Tryd.prog Tryd.f7 Rows.frameBurstsRow.domain false Rows.frameBurstsRow.laid) (((OpenSpec.ofChange Rows.frameBurstsSpec).at F).post enc Tryd.prog Tryd.f7 false true false false) := by
  obtain ⟨w0, h1, h2, h3, h4, h5, h6⟩ := start os
  refine returnsInHanded_of_row (C := Tryd.checked) (s := OpenSpec.ofChange Rows.frameBurstsSpec) own started (by kernel_rfl) Tryd.func7
    (witness_row_at (enc := enc) (C := Tryd.checked) false w0 #[.int .i64 0, .int .i64 0, .slice none 0 0, .int .i64 0, .int .u32 0] h1 h2 h3 h4
      (OpenSpec.preRow_of_cond 8 (h6 H enc) (by kernel_rfl) (fun k hk => by cases hk) (by kernel_rfl) h5)) ?_
  intro W base args ds gs before hval hW _ hcond hsz hL _ _
  exact contract H enc W base args ds gs before hval hW hsz hL
theorem said : Rows.FrameBurstsSaid :=
  OpenClaim.holds_of_cond 7 Tryd.f7 rfl rfl rfl rfl rfl rfl rfl ⟨rfl, rfl, rfl, rfl, rfl⟩ rfl rfl rfl rfl rfl (by kernel_rfl) Tryd.func7 (by kernel_rfl)
    (of_decide_eq_true (by kernel_rfl)) (by unfold Func.isWrapper; first | (rw [if_pos (by decide +kernel)]; kernel_rfl) | (rw [if_neg (by decide +kernel)]; exact ⟨rfl, rfl⟩))
    (fun os started H enc _ F => by rw [OpenClaim.pre_eq_preRow]; exact lifted os started H enc F)
theorem plain (f : FuncId) (fn : Func) (hf : Tryd.pinned.checked.prog.funcNamed "daybook/daybooklaw11.FrameBursts" = some f) (hfn : Tryd.pinned.checked.prog.funcs[f]? = some fn) :
    false = Tryd.pinned.checked.prog.looks [] ∧ ∀ (j : Nat) t, fn.params[j]? = some t → Tryd.pinned.checked.prog.wantsStandIn t = false := by
  obtain rfl : f = 7 := Option.some.inj ((show Tryd.prog.funcNamed "daybook/daybooklaw11.FrameBursts" = some 7 by kernel_rfl).symm.trans hf) |>.symm
  obtain rfl : fn = Tryd.f7 := (Option.some.inj (Tryd.func7.symm.trans hfn)).symm
  refine ⟨by kernel_rfl, fun j t ht => ?_⟩
  rw [Tryd.params7] at ht
  have hm := Array.mem_of_getElem? ht
  have hall : ∀ t ∈ (#[3, 3, 22, 3, 51] : Array TypeId), Tryd.prog.wantsStandIn t = false := by
    intro t ht
    simp only [List.mem_toArray, List.mem_cons, List.not_mem_nil, or_false] at ht
    rcases ht with rfl | rfl | rfl | rfl | rfl <;> kernel_rfl
  exact hall t hm
theorem card : Rows.FrameBurstsCardSaid :=
  Claim7.holds_tied_plain_at .later [] _ _ _ _ said (fun _ h => by cases h) (by kernel_rfl) (fun _ h => by cases h) frameBursts_row_tie rfl ⟨rfl, rfl⟩ (by kernel_rfl) rfl plain (by kernel_rfl)
end Go.Proofs.YtogklgpghecclaaDoor.frameBursts
