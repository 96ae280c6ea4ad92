/- What schema.Pack and schema.Unpack answer is what the reference answers, and an answer is new memory: for every version, event and text. -/
import Derived.Test.YtfhcbdmmckjmaaaJ17
import Derived.Test.YtfhcbdmmckjmaaaJ26
import Derived.Test.YtfhcbdmmckjmaaaJ20
import Derived.SizedLaws
import Derived.ChangeOld
import Derived.JoinedCond
import Derived.Laws.OwnMore
namespace Go.Proofs.Ytfhcbdmmckjmaaa.schemaPacks
open Go.ChangeShapes Go.WideShapes Go.ChangeAt Go.RowKit
set_option linter.unusedVariables false
theorem own_bytes {w : World} {base : Nat} {a : Option Addr} {k c : Nat} {m : List Nat} (h : Own w base (.slice a k c) m) : Bytes w a m := by
  obtain ⟨a2, c2, hv, _, _, hb, _⟩ := h.shape
  injection hv with h1
  subst h1
  exact hb
theorem ob_ne {a : Option Addr} {k c g : Nat} (h : ∀ x, a = some x → x.block ≠ g) : (Value.slice a k c).ownBlock ≠ some g := by
  cases a with
  | none => simp [Value.ownBlock]
  | some x => have := h x rfl; simpa [Value.ownBlock] using this
/-- while the first answer is turned -/
structure Fl (w wr : World) (ap : Option Addr) (k cp : Nat) (vq vw : Value) (m : List Nat) : Prop where
  bel : Below w.heap.size w wr
  p : ∃ xs, wr.ownsRow w.heap.size 5 1 (.slice ap k cp) k xs ∧ ∀ x ∈ xs, ∃ z : Int, x = .int .u8 z
  q : Own wr w.heap.size vq m
  r : Own wr w.heap.size vw m
theorem Fl.step {w wr : World} {ap : Option Addr} {k cp : Nat} {vq vw : Value} {m : List Nat} (h : Fl w wr ap k cp vq vw m) (hs : ∀ g, ap = some ⟨g, 0, none⟩ → vq.ownBlock ≠ some g ∧ vw.ownBlock ≠ some g) (j : Nat) (hj : j < k) :
    ∃ g z, ap = some ⟨g, 0, none⟩ ∧ wr.cell? ⟨g, j, none⟩ = some (.int .u8 z) ∧ wr.frozen? ⟨g, j, none⟩ = false ∧ ∀ y : Int, Fl w (wr.setCell ⟨g, j, none⟩ (.int .u8 y)) ap k cp vq vw m := by
  obtain ⟨xs, hx, hz⟩ := h.p
  have hx2 := hx
  rcases hx2.2 with ⟨_, hn⟩ | ⟨g, cap, cur, hv, hb, _⟩
  · omega
  · injection hv with h1 h2 h3
    subst h1
    have e2 := hx.cellAt j (by omega)
    have hl := hx.1
    obtain ⟨x, hxj⟩ : ∃ x, xs[j]? = some x := ⟨_, List.getElem?_eq_getElem (by omega)⟩
    obtain ⟨z, rfl⟩ := hz x (List.mem_of_getElem? hxj)
    refine ⟨g, z, rfl, by rw [e2]; exact hxj, hx.frozenAt j, fun y => ?_⟩
    have hst := hx.stored j (.int .u8 y)
    obtain ⟨s1, s2⟩ := hs g rfl
    exact ⟨h.bel.setCell (p := ⟨g, j, none⟩) hb _, ⟨_, hst.1, fun x hx => by rcases List.mem_or_eq_of_mem_set hx with h9 | rfl; exact hz x h9; exact ⟨y, rfl⟩⟩, ⟨h.q.1, h.q.2.kept hst.2 (.inr s1)⟩, ⟨h.r.1, h.r.2.kept hst.2 (.inr s2)⟩⟩
theorem Fl.start {w x : World} {ap aq aw : Option Addr} {k cp cq cw : Nat} {m : List Nat} (hb : Below w.heap.size w x) (hp : Own x w.heap.size (.slice ap k cp) m) (hq : Own x w.heap.size (.slice aq k cq) m) (hr : Own x w.heap.size (.slice aw k cw) m) (hk : m.length = k) : Fl w x ap k cp (.slice aq k cq) (.slice aw k cw) m := by
  subst hk
  exact ⟨hb, ⟨_, hp.2, fun x hx => by obtain ⟨n, _, rfl⟩ := List.mem_map.1 hx; exact ⟨_, rfl⟩⟩, hq, hr⟩
theorem own_le {w : World} {b b' : Nat} {v : Value} {m : List Nat} (h : Own w b' v m) (hb : b ≤ b') : Own w b v m := ⟨h.1, h.2.mono hb⟩
set_option maxRecDepth 20000 in
set_option maxHeartbeats 1000000 in
theorem walk (v : Int) (e : Ev) (l : List Nat) (a : Option Addr) (cap : Nat) (w : World) (w0 : (Lit.int .i64 v).wf = true) (w1 : e.Fit) (hb : Bytes w a l) (hc : Came w a l.length cap 1) :
    Calls Try.prog 8 #[.int .i64 v, .agg (evA e), .slice a l.length cap] w fun r w' => r = .returned (.bool true) ∧ Below w.heap.size w w' := by
  have HB : Hid (Bytes w a l) := hb
  have hl : l.length ≤ 140737488351232 := by have h1 := hc.1; have h2 := hc.2; omega
  have hlc : l.length ≤ cap := hc.1
  obtain ⟨n, hn⟩ : ∃ n, l.length = n := ⟨_, rfl⟩
  have HN : Hid (l.length = n) := hn
  rw [hn] at hl hlc ⊢
  have hlm : n ≤ maxLen := by unfold maxLen; omega
  obtain ⟨m, c, hP⟩ : ∃ m c, spk v e = (m, c) := ⟨_, _, rfl⟩
  have HP : Hid (_) := hP
  obtain ⟨k, hk⟩ : ∃ k, m.length = k := ⟨_, rfl⟩
  have HK : Hid (m.length = k) := hk
  have hkm : k ≤ 1034 := by
    by_cases hc0 : chk v e = 0
    · have h9 : spk v e = (enc v.toNat ++ ones (efs v e), 0) := if_neg (by simp [hc0])
      rw [hP] at h9
      have h1 := encs_pre _ _ _ _ (efs_encs (right_of hc0))
      have h2 := (enc_length_le v.toNat (by have := (right_of hc0).v5; omega)).2
      have h3 := h1.2
      rw [← hk, (Prod.mk.inj h9).1, List.length_append]
      omega
    · have h9 : spk v e = ([], chk v e) := if_pos hc0
      rw [hP] at h9
      rw [← hk, (Prod.mk.inj h9).1]
      simp
  have HA : Hid (EvAt (w.alloc (.cells (evA e) 24)) w.heap.size e) := evAt_new w e
  have HAB : Hid (Below w.heap.size w (w.alloc (.cells (evA e) 24))) := (Below.refl _ _).alloc (Nat.le_refl _) _
  have T1 : Hid True := trivial
  have T2 : Hid True := trivial
  have T3 : Hid True := trivial
  have T4 : Hid True := trivial
  clear hb hc hn hP hk w0 w1
  go_enter Try.func8, Try.ntmps8
  go_wp2_with (first
    | (go_at_call 9; refine (head06_any _).mono ?_; rintro _ x1 ⟨rfl, hb1⟩; have HB1 : Hid (Below w.heap.size w x1) := below_next HAB.out hb1; have HA1 : Hid (EvAt x1 w.heap.size e) := HA.out.after hb1; clear hb1)
    | ((with_reducible refine guard_load 24 ?_); clear T1; refine wpList_load_ev rfl _ rfl HA1.out rfl ?_)
    | (go_at_call 18; refine (rpack06_any v e _).mono ?_; unfold SpkPost; rw [HP.out]; rintro _ x2 ⟨vw, rfl, ho2, hb2⟩; obtain ⟨aw, cw, hvw, _, _, hyw, hsw⟩ := ho2.shape; simp only [HK.out] at hvw; subst hvw; have HW2 : Hid (Bytes x2 aw m ∧ Own x2 x1.heap.size (.slice aw k cw) m) := ⟨hyw, ho2⟩; have HB2 : Hid (Below w.heap.size w x2) := below_next HB1.out hb2; have HA2 : Hid (EvAt x2 w.heap.size e) := HA1.out.after hb2; have HSW : Hid (∀ x, aw = some x → x.block < x2.heap.size) := (fun x hx => by rcases hsw with ⟨h1, _⟩ | ⟨g, h1, _, h2⟩; rw [h1] at hx; cases hx; rw [h1] at hx; cases hx; exact h2); clear hb2 ho2 hyw hsw)
    | ((with_reducible refine guard_load 24 ?_); clear T2; refine wpList_load_ev rfl _ rfl HA2.out rfl ?_)
    | (go_at_call 19; clear T3; refine (spack_any v e _).mono ?_; unfold SpkPost; rw [HP.out]; rintro _ x3 ⟨vp, rfl, ho3, hb3⟩; obtain ⟨ap, cp, hvp, _, _, hyp, hsp⟩ := ho3.shape; simp only [HK.out] at hvp; subst hvp; have HP3 : Hid (Bytes x3 ap m ∧ Own x3 x2.heap.size (.slice ap k cp) m) := ⟨hyp, ho3⟩; have HW3 : Hid (Bytes x3 aw m ∧ Own x3 x1.heap.size (.slice aw k cw) m) := ⟨HW2.out.1.keep hb3, own_app HW2.out.2 hb3⟩; have HB3 : Hid (Below w.heap.size w x3) := below_next HB2.out hb3; have HA3 : Hid (EvAt x3 w.heap.size e) := HA2.out.after hb3; have HSP : Hid (∀ g, ap = some ⟨g, 0, none⟩ → x2.heap.size ≤ g ∧ g < x3.heap.size) := (fun g hx => by rcases hsp with ⟨h1, _⟩ | ⟨g2, h1, h3, h2⟩; rw [h1] at hx; cases hx; rw [h1] at hx; cases hx; exact ⟨h3, h2⟩); clear hb3 ho3 hyp hsp)
    | ((with_reducible refine guard_load 24 ?_); clear T4; refine wpList_load_ev rfl _ rfl HA3.out rfl ?_)
    | (go_at_call 19; refine (spack_any v e _).mono ?_; unfold SpkPost; rw [HP.out]; rintro _ x4 ⟨vq, rfl, ho4, hb4⟩; obtain ⟨aq, cq, hvq, _, _, hyq, hsq⟩ := ho4.shape; simp only [HK.out] at hvq; subst hvq; have HQ4 : Hid (Bytes x4 aq m ∧ Own x4 x3.heap.size (.slice aq k cq) m) := ⟨hyq, ho4⟩; have HP4 : Hid (Bytes x4 ap m ∧ Own x4 x2.heap.size (.slice ap k cp) m) := ⟨HP3.out.1.keep hb4, own_app HP3.out.2 hb4⟩; have HW4 : Hid (Bytes x4 aw m ∧ Own x4 x1.heap.size (.slice aw k cw) m) := ⟨HW3.out.1.keep hb4, own_app HW3.out.2 hb4⟩; have HB4 : Hid (Below w.heap.size w x4) := below_next HB3.out hb4; have HSQ : Hid (∀ x, aq = some x → x3.heap.size ≤ x.block) := (fun x hx => by rcases hsq with ⟨h1, _⟩ | ⟨g, h1, h3, _⟩; rw [h1] at hx; cases hx; rw [h1] at hx; cases hx; exact h3); clear hb4 ho4 hyq hsq)
    | (go_at_call 14; refine (same_yes m k k ap aw cp cw _ HK.out HK.out HP4.out.1 HW4.out.1 (by unfold maxLen; omega)).mono ?_; rintro _ x5 ⟨rfl, hb5⟩; have HP5 : Hid (Bytes x5 ap m ∧ Own x5 x2.heap.size (.slice ap k cp) m) := ⟨HP4.out.1.keep hb5, own_app HP4.out.2 hb5⟩; have HW5 : Hid (Bytes x5 aw m ∧ Own x5 x1.heap.size (.slice aw k cw) m) := ⟨HW4.out.1.keep hb5, own_app HW4.out.2 hb5⟩; have HQ5 : Hid (Bytes x5 aq m ∧ Own x5 x3.heap.size (.slice aq k cq) m) := ⟨HQ4.out.1.keep hb5, own_app HQ4.out.2 hb5⟩; have HB5 : Hid (Below w.heap.size w x5) := below_next HB4.out hb5; clear hb5))
  have HFL : Hid (Fl w x5 ap k cp (.slice aq k cq) (.slice aw k cw) m) := Fl.start HB5.out (own_le HP5.out.2 HB2.out.size) (own_le HQ5.out.2 HB3.out.size) (own_le HW5.out.2 HB1.out.size) HK.out
  have HSEP : Hid (∀ g, ap = some ⟨g, 0, none⟩ → (Value.slice aq k cq).ownBlock ≠ some g ∧ (Value.slice aw k cw).ownBlock ≠ some g) := fun g hg => ⟨ob_ne fun x hx => by have h1 := HSQ.out x hx; have h2 := HSP.out g hg; omega, ob_ne fun x hx => by have h1 := HSW.out x hx; have h2 := HSP.out g hg; omega⟩
  clear HP5 HQ5 HW5 HP4 HQ4 HW4 HP3 HW3 HW2 HSP HSQ HSW
  have hk0 : (0 : Int) ≤ (k : Int) := by omega
  go_loopw [52] (fun vi wr => ∃ j : Nat, j ≤ k ∧ vi = .int .i64 (j : Int) ∧ Hid (Fl w wr ap k cp (.slice aq k cq) (.slice aw k cw) m)) (fun vi _ => k - (intOf vi).toNat)
  case atStart => exact ⟨0, by omega, rfl, HFL.out⟩
  case round =>
    obtain ⟨j, hj, rfl, HI⟩ := hrel
    by_cases hjl : j < k
    · obtain ⟨g, z, hap, c0, f0, hnew⟩ := HI.out.step HSEP.out j hjl
      have HNEW : Hid (_) := hnew
      subst hap
      clear hnew
      go_wp2
      go_roundw
      case rel => exact ⟨j + 1, by omega, by go_num, HNEW.out _⟩
      case measure => simp [intOf]; omega
    · obtain rfl : k = j := by omega
      obtain ⟨V, E, d, hU⟩ : ∃ V E d, sunp l = (V, E, d) := ⟨_, _, _, rfl⟩
      have HU : Hid (_) := hU
      have hz := fun w => ev_eql E w
      have HY6 : Hid (Bytes wr aq m ∧ Bytes wr aw m) := ⟨own_bytes HI.out.q, own_bytes HI.out.r⟩
      have HB6 : Hid (Below w.heap.size w wr) := HI.out.bel
      have S1 : Hid True := trivial
      have S2 : Hid True := trivial
      clear hU
      go_wp2_with (first
        | (go_at_call 14; clear S1; refine (same_yes m k k aq aw cq cw _ HK.out HK.out HY6.out.1 HY6.out.2 (by unfold maxLen; omega)).mono ?_; rintro _ x7 ⟨rfl, hb7⟩; have HB7 : Hid (Below w.heap.size w x7) := below_next HB6.out hb7; clear hb7)
        | (go_at_call 15; refine (copy_nn l a n cap _ HN.out (HB.out.keep HB7.out) (by omega)).mono ?_; rintro _ x8 ⟨a8, cap8, rfl, hcap8, hy8, _, hb8⟩; have HY8 : Hid (Bytes x8 a8 l) := hy8; have HB8 : Hid (Below w.heap.size w x8) := below_next HB7.out hb8; clear hy8 hb8)
        | (go_at_call 20; refine (runp06_any l a n cap _ HN.out (HB.out.keep HB8.out) hlc hlm).mono ?_; rw [HU.out]; rintro _ x9 ⟨rfl, hb9⟩; have HB9 : Hid (Below w.heap.size w x9) := below_next HB8.out hb9; have HY9 : Hid (Bytes x9 a8 l) := HY8.out.keep hb9; clear hb9)
        | ((with_reducible refine guard_store 24 ?_); clear S2; refine wpList_store_ev (e := zeroE) (e2 := E) rfl _ _ rfl (evAt_new x9 zeroE) rfl rfl ?_; intro y1 z1 z2 z3 z4; have HE1 : Hid (EvAt y1 x9.heap.size E) := z1; have HU1 : Hid (Below x9.heap.size x9 y1) := z2 _ _ ((Below.refl _ _).alloc (Nat.le_refl _) _) (Nat.le_refl _); have HC1 : Hid (Below w.heap.size w y1) := below_next HB9.out HU1.out; have HY1 : Hid (Bytes y1 a8 l) := HY9.out.keep HU1.out; clear z1 z2 z3 z4)
        | (go_at_call 21; refine (sunp_any l a8 n cap8 _ HN.out HY1.out hcap8 hlm).mono ?_; rw [HU.out]; rintro _ y2 ⟨rfl, hc2⟩; have HC2 : Hid (Below w.heap.size w y2) := below_next HC1.out hc2; have HY2 : Hid (Bytes y2 a8 l) := HY1.out.keep hc2; have HE2 : Hid (EvAt y2 x9.heap.size E) := HE1.out.after hc2; clear hc2)
        | ((with_reducible refine guard_store 24 ?_); refine wpList_store_ev (e := zeroE) (e2 := E) rfl _ _ rfl (evAt_new y2 zeroE) rfl rfl ?_; intro y3 z1 z2 z3 z4; have HE3 : Hid (EvAt y3 y2.heap.size E) := z1; have HU3 : Hid (Below y2.heap.size y2 y3) := z2 _ _ ((Below.refl _ _).alloc (Nat.le_refl _) _) (Nat.le_refl _); have HC3 : Hid (Below w.heap.size w y3) := below_next HC2.out HU3.out; have HY3 : Hid (Bytes y3 a8 l) := HY2.out.keep HU3.out; have HF3 : Hid (EvAt y3 x9.heap.size E) := HE2.out.after HU3.out; clear z1 z2 z3 z4)
        | ((with_reducible refine guard_loadg 24 ?_); first | refine wpList_load_evg rfl _ rfl HF3.out rfl ?_ | refine wpList_load_evg rfl _ rfl HE3.out rfl ?_)
        | (go_at_call 14; refine (same_yes l n n a8 a cap8 cap _ HN.out HN.out HY3.out (HB.out.keep HC3.out) hlm).mono ?_; rintro _ y4 ⟨rfl, hc4⟩; have HC4 : Hid (Below w.heap.size w y4) := below_next HC3.out hc4; clear hc4))
      go_ret
      exact ⟨rfl, HC4.out⟩
theorem own : ownKnob Try.prog.godebug = none := by kernel_rfl
theorem laidOut : laidOutB Try.prog = true := by kernel_rfl
set_option maxRecDepth 100000 in
theorem contract (H : Type) (enc : TypeId × Value → H) (W : World) (base : Nat) (args : Array Value) (ds gs : List (DataW H)) (before : List MemPlace)
    (hval : ∀ (j : Nat) t v, Try.f8.params[j]? = some t → args[j]? = some v → Value.okWide Try.prog W .any base t v)
    (hW : DataW.Whole enc Try.prog Try.f8.params.toList Rows.schemaPacksSpec.vars false W args.toList ds gs before)
    (hsz : (DataW.weightsEach Try.prog (Try.f8.params.toList ++ Rows.schemaPacksSpec.plain.varTypes Try.prog) (ds ++ gs)).all (· ≤ reachBytes) = true) :
    Calls Try.prog 8 args W fun e W' => ∃ v, e = .returned v ∧ Rows.schemaPacksSpec.post enc Try.prog Try.f8 false true false false W args v W' := by
  have hW' := hW
  obtain ⟨p, q, hA0, hV, rfl, hfz, hnd⟩ := hW
  have hA : DataW.TrodAll enc Try.prog W 0 (fun _ => true) true Try.f8.params.toList args.toList ds p := hA0
  rw [Try.params8] at hA hval hsz
  obtain ⟨v0, vs0, d0, ds0, p0, q0, hargs, rfl, rfl, h0, r0⟩ := trodAll_cons hA
  obtain ⟨v1, vs1, d1, ds1, p1, q1, rfl, rfl, rfl, h1, r1⟩ := trodAll_cons r0
  obtain ⟨v2, vs2, d2, ds2, p2, q2, rfl, rfl, rfl, h2, r2⟩ := trodAll_cons r1
  obtain ⟨rfl, rfl, rfl⟩ := trodAll_nil r2
  obtain rfl : args = #[v0, v1, v2] := by cases args; simp_all
  obtain ⟨rfl, rfl⟩ := trodVars_none hV
  obtain ⟨a0, rfl, rfl, rfl, w0⟩ := open_int Try.underlying3 (hval 0 3 v0 rfl rfl) h0
  have k1 := h1
  have lt1 : ∀ x ∈ p1, x.block < W.heap.size := by obtain ⟨m, hm⟩ := k1; exact DataW.trod_lt m _ _ _ hm
  obtain ⟨a1, rfl, _, w1⟩ := open_event Try.underlying24 (by kernel_rfl) (by kernel_rfl) (by kernel_rfl) (by kernel_rfl) (by kernel_rfl) (by kernel_rfl) (by kernel_rfl) (by kernel_rfl) (by kernel_rfl) (by kernel_rfl) (by kernel_rfl) (by kernel_rfl) (hval 1 24 v1 rfl rfl) h1
  obtain ⟨a2, len2, cap2, rfl⟩ := okWide_slice Try.underlying30 (hval 2 30 v2 rfl rfl)
  have k2 := h2
  have lt2 : ∀ x ∈ p2, x.block < W.heap.size := by obtain ⟨m, hm⟩ := k2; exact DataW.trod_lt m _ _ _ hm
  obtain ⟨l2, hlen2, w2, c2⟩ : ∃ l : List Nat, l.length = len2 ∧ Bytes W a2 l ∧ Came W a2 len2 cap2 1 := by
    obtain ⟨fuel, hf⟩ := h2
    rcases open_ints Try.underlying30 Try.underlying5 (by kernel_rfl) hf with ⟨hcs, hx⟩ | ⟨x, l, c, zs, hcs, _, hl, hm, hz, hx, hcell, hwz⟩
    · simp [Value.cells] at hcs
      obtain ⟨rfl, rfl, rfl⟩ := hcs
      exact ⟨[], rfl, ⟨by simp, .inl rfl⟩, ⟨Nat.le_refl _, by simp, fun _ => rfl⟩⟩
    · simp [Value.cells] at hcs
      obtain ⟨rfl, rfl, rfl⟩ := hcs
      have hz2 : zs.length = cap2 := by simpa using hz
      obtain ⟨ll, e1, e2, e3⟩ := row_nats .u8 256 (by decide) wf_u8 W x zs len2 (by omega) hcell hwz
      have hd : d2 = .slice (lits .u8 (zs.take len2)) (lits .u8 (zs.drop len2)) := (Prod.mk.inj hx).1
      have hreach : cap2 * 1 ≤ 140737488351232 := by
        have := sized_slice hsz (j := 2) (t := 30) (e := 5) rfl (by rw [hd]; rfl) Try.underlying30
        rw [show Try.prog.bytesOf 5 = 1 from by kernel_rfl] at this
        simp only [lits, List.length_map, List.length_take, List.length_drop, reachBytes] at this
        have hmin : min len2 zs.length = len2 := Nat.min_eq_left (by omega)
        rw [hmin] at this
        have hcap : len2 + (zs.length - len2) = cap2 := by omega
        rw [hcap] at this
        exact this
      exact ⟨ll, e1, ⟨e2, e3⟩, ⟨hl, hreach, fun h => by cases h⟩⟩
  subst hlen2
  clear hA0
  refine (walk a0 a1 l2 a2 cap2 W w0 w1 w2 c2).mono fun e W' ⟨he, bel⟩ => ?_
  subst he
  exact ⟨_, rfl, _, _, _, [], _, [], hW', trodAll_mk1 (shut_bool Try.underlying4 _), (trodAll_cons_mk (shut_int Try.underlying3 w0) (trodAll_cons_mk (Below.trod laidOut (by kernel_rfl) (of_decide_eq_true (by kernel_rfl)) k1 bel lt1) (trodAll_cons_mk (Below.trod laidOut (by kernel_rfl) (of_decide_eq_true (by kernel_rfl)) k2 bel lt2) trodAll_mk0))), rfl, bel.frame _, fun h => by cases h⟩
set_option maxRecDepth 100000 in
theorem lifted (os : Os) (started : os.Started) (H : Type) (enc : TypeId × Value → H) :
    ReturnsInHanded {} Try.checked os 8 .any (Rows.schemaPacksSpec.pre6 enc Try.prog Try.f8 Rows.schemaPacksRow.domain false) (Rows.schemaPacksSpec.post enc Try.prog Try.f8 false true false false) := by
  refine returnsInHanded_of_change_sized (C := Try.checked) own started (by kernel_rfl) Try.func8
    (ChangeSpec.witness6 (enc := enc) (C := Try.checked) false ⟨#[], #[.int .i64 0, .agg #[.int .i64 0, .int .i64 0, .int .i64 0, .int .i64 0, .int .i64 0, .int .i64 0, .int .i64 0, .string ⟨#[]⟩, .int .i64 0, .string ⟨#[]⟩], .slice none 0 0], []⟩ 8 (by kernel_rfl) (by kernel_rfl) (by kernel_rfl) (by kernel_rfl)) ?_
  intro W base args ds gs before hval hW _ hsz _
  exact contract H enc W base args ds gs before hval hW hsz
theorem over : Rows.schemaPacksRow.holds Try.pinned (OpenSpec.ofChange Rows.schemaPacksSpec) :=
  OpenClaim.holds_of_wide 8 Try.f8 rfl rfl rfl rfl rfl rfl rfl ⟨rfl, rfl, rfl, rfl, rfl⟩ rfl rfl rfl rfl rfl (by kernel_rfl) Try.func8 (by kernel_rfl)
    (of_decide_eq_true (by kernel_rfl)) (by unfold Func.isWrapper; first | (rw [if_pos (by decide +kernel)]; kernel_rfl) | (rw [if_neg (by decide +kernel)]; exact ⟨rfl, rfl⟩))
    (fun os started H enc _ => lifted os started H enc)
theorem proved : Rows.SchemaPacksSaid := over
end Go.Proofs.Ytfhcbdmmckjmaaa.schemaPacks
