/- For every text and every kind: frame.Whole answers the document's frame and error. No condition. -/
import Derived.Test.YtogklgpghecclaaDoorCrcTie
import Derived.Test.YtogklgpghecclaaDoorFr5
import Derived.Test.YtogklgpghecclaaDoorFra
import Derived.Test.YtogklgpghecclaaDoorCopy
import Derived.Test.YtogklgpghecclaaDoorSame
import Derived.SizedLaws
import Derived.ChangeOld
namespace Go.Proofs.YtogklgpghecclaaDoor.frameWholes
open Go.ChangeShapes Go.WideShapes Go.ChangeAt Go.RowKit
set_option linter.unusedVariables false
def F1 : List Nat := frameL 2 1 []
theorem F1_length : F1.length = 20 := frameL_length 2 1 []
theorem F1_whole (v : Value) : WV F1 2 v = .tuple #[FrV 2 1 v, .int .i64 0] := by
  obtain ⟨h1, h2, h3, h4, h5⟩ := dec_laid 2 1 [] [] (by decide) (by decide) (by decide) (by decide) (by decide)
  rw [List.append_nil] at h1 h2 h3 h4 h5
  have e1 : decE F1 = 0 := h1
  have e2 : pk F1 = 2 := by have h : decK F1 = 2 := h2; unfold decK at h; rw [if_pos e1] at h; exact h
  have e3 : ps F1 = 1 := by have h : decS F1 = 1 := h3; unfold decS at h; rw [if_pos e1] at h; exact h
  have e4 : pn F1 + 20 = 20 := by have h : decN F1 = 20 := h4; unfold decN at h; rw [if_pos e1] at h; exact h
  have hw : whE F1 2 = 0 := by
    unfold whE
    rw [if_neg (by omega), e2, e4, F1_length, if_neg (by omega)]
  have := (wv_good F1 2 v hw).1
  rw [e2, e3] at this
  exact this
set_option maxRecDepth 20000 in
set_option maxHeartbeats 1000000 in
theorem walk (l : List Nat) (a : Option Addr) (cap : Nat) (kind : Int) (w : World) (hb : Bytes w a l) (hc : Came w a l.length cap 1) (w1 : (Lit.int .i64 kind).wf = true) (ht : Tab w) :
    Calls Tryd.prog 5 #[.slice a l.length cap, .int .i64 kind] w fun e w' => e = .returned (.bool true) ∧ Below w.heap.size w w' := by
  obtain ⟨hf, hr, hn⟩ := hc
  have hl : l.length ≤ 140737488351232 := by omega
  have HB : Hid (Bytes w a l) := hb
  have HT : Hid (Tab w) := ht
  obtain ⟨n, hN⟩ : ∃ n, l.length = n := ⟨_, rfl⟩
  have HN : Hid (l.length = n) := hN
  have HCP : Hid (∀ w1, Below w.heap.size w w1 → Calls Tryd.prog 11 #[.slice a n cap] w1 fun e w' => ∃ v, e = .returned v ∧ Own w' w1.heap.size v l ∧ Below w1.heap.size w1 w') := fun w1 hb1 => by
    have := copy_any l a cap w1 (hb.keep hb1) (by rw [hN]; omega)
    rw [hN] at this
    exact this
  obtain ⟨kk, hkk⟩ : ∃ x : Int, ((whK l kind : Nat) : Int) = x := ⟨_, rfl⟩
  obtain ⟨ss, hss⟩ : ∃ x : Int, ((whS l kind : Nat) : Int) = x := ⟨_, rfl⟩
  obtain ⟨ee, hee⟩ : ∃ x : Int, ((whE l kind : Nat) : Int) = x := ⟨_, rfl⟩
  have HWV : Hid (∀ v, WV l kind v = .tuple #[FrV kk ss v, .int .i64 ee]) := fun v => by rw [← hkk, ← hss, ← hee]
  have hbl : (whB l kind).length ≤ 16384 := by
    unfold whB
    by_cases h : whE l kind = 0
    · rw [if_pos h]
      unfold decB
      by_cases h2 : decE l = 0
      · rw [if_pos h2]
        have := (peekE_zero (decE_zero h2).1).2.2.2.1
        rw [List.length_take]
        omega
      · rw [if_neg h2]; simp
    · rw [if_neg h]; simp
  obtain ⟨m, hM⟩ : ∃ m, (whB l kind).length = m := ⟨_, rfl⟩
  have HM : Hid ((whB l kind).length = m) := hM
  rw [hM] at hbl
  have HRW : Hid (∀ w1, Below w.heap.size w w1 → Calls Tryd.prog 21 #[.slice a n cap, .int .i64 kind] w1 fun r w' => ∃ v, r = .returned (WV l kind v) ∧ Own w' w1.heap.size v (whB l kind) ∧ Below w1.heap.size w1 w') := fun w1 hb1 => rfwhole_any l kind n a cap w1 hN (hb.keep hb1) (by omega) hf
  have HFW : Hid (∀ w1 a1 c1, Below w.heap.size w w1 → Bytes w1 a1 l → n ≤ c1 → Calls Tryd.prog 20 #[.slice a1 n c1, .int .i64 kind] w1 fun r w' => ∃ v, r = .returned (WV l kind v) ∧ Own w' w1.heap.size v (whB l kind) ∧ Below w1.heap.size w1 w') := fun w1 a1 c1 hb1 hy1 hc1 => fwhole_any l kind n a1 c1 w1 hN hy1 (by omega) (by omega) (ht.keep hb1)
  rw [hN] at hl hf ⊢
  have T1 : Hid True := trivial
  have hmm : m ≤ maxLen := by unfold maxLen; omega
  clear hb ht hN w1 hn hkk hss hee hM hr hl
  go_enter Tryd.func5, Tryd.ntmps5
  go_wp2_with (first
    | (go_at_call 13; refine (fenc_none 2 1 _ (by decide) (by decide) (by decide) HT.out).mono ?_; rintro r w1 ⟨v1, rfl, ho1, hb1⟩; obtain ⟨g1, c1, hv1, hc1, hy1⟩ := Own.row (l := F1) ho1 (by intro h; have := F1_length; rw [h] at this; simp at this); rw [F1_length] at hv1 hc1; subst hv1; have HB1 : Hid (Below w.heap.size w w1) := hb1; have HY1 : Hid (Bytes w1 (some ⟨g1, 0, none⟩) F1) := hy1; clear ho1 hb1 hy1)
    | (go_at_call 20; clear T1; refine (fwhole_any F1 2 20 _ _ _ F1_length HY1.out (by rw [F1_length]; omega) (by rw [F1_length]; omega) (HT.out.keep HB1.out)).mono ?_; rintro r w2 ⟨v2, rfl, ho2, hb2⟩; rw [F1_whole v2]; obtain ⟨a2, c2, hv2, _⟩ := ho2.shape; subst hv2; have HB2 : Hid (Below w.heap.size w w2) := below_next HB1.out hb2; have HB2' : Hid (Below w.heap.size w (w2.alloc (.cells #[.int .i64 2, .int .i64 1, .slice a2 (whB F1 2).length c2] 29))) := HB2.out.alloc HB2.out.size _; clear ho2 hb2)
    | (go_at_call 21; refine (HRW.out _ HB2'.out).mono ?_; rintro r w3 ⟨v3, rfl, ho3, hb3⟩; rw [HWV.out v3]; obtain ⟨a3, c3, hv3, _, _, hy3, _⟩ := ho3.shape; rw [HM.out] at hv3; subst hv3; have HB3 : Hid (Below w.heap.size w w3) := below_next HB2'.out hb3; have HB3' : Hid (Below w.heap.size w (w3.alloc (.cells #[.int .i64 kk, .int .i64 ss, .slice a3 m c3] 29))) := HB3.out.alloc HB3.out.size _; have HY3 : Hid (Bytes (w3.alloc (.cells #[.int .i64 kk, .int .i64 ss, .slice a3 m c3] 29)) a3 (whB l kind)) := hy3.keep ((Below.refl _ _).alloc (Nat.le_refl _) _); have HF3 : Hid (FrmAt (w3.alloc (.cells #[.int .i64 kk, .int .i64 ss, .slice a3 m c3] 29)) w3.heap.size kk ss (.slice a3 m c3)) := FrmAt.new _ _ _ _; clear ho3 hb3 hy3)
    | (go_at_call 11; refine (HCP.out _ HB3'.out).mono ?_; rintro r w4 ⟨v4, rfl, ho4, hb4⟩; obtain ⟨a4, c4, hv4, hc4, _, hy4, _⟩ := ho4.shape; rw [HN.out] at hv4 hc4; subst hv4; have HB4 : Hid (Below w.heap.size w w4) := below_next HB3'.out hb4; have HY4 : Hid (Bytes w4 a4 l) := hy4; have HY34 : Hid (Bytes w4 a3 (whB l kind)) := HY3.out.keep hb4; have HF4 : Hid (FrmAt w4 w3.heap.size kk ss (.slice a3 m c3)) := HF3.out.keep hb4; clear ho4 hb4 hy4)
    | (go_at_call 20; refine (HFW.out _ _ _ HB4.out HY4.out hc4).mono ?_; rintro r w5 ⟨v5, rfl, ho5, hb5⟩; rw [HWV.out v5]; obtain ⟨a5, c5, hv5, _, _, hy5, _⟩ := ho5.shape; rw [HM.out] at hv5; subst hv5; have HB5 : Hid (Below w.heap.size w w5) := below_next HB4.out hb5; have HF5 : Hid (FrmAt (w5.alloc (.cells #[.int .i64 kk, .int .i64 ss, .slice a5 m c5] 29)) w3.heap.size kk ss (.slice a3 m c3)) := (HF4.out.keep hb5).keep ((Below.refl _ _).alloc (Nat.le_refl _) _); have HF6 : Hid (FrmAt (w5.alloc (.cells #[.int .i64 kk, .int .i64 ss, .slice a5 m c5] 29)) w5.heap.size kk ss (.slice a5 m c5)) := FrmAt.new _ _ _ _; have HY35 : Hid (Bytes (w5.alloc (.cells #[.int .i64 kk, .int .i64 ss, .slice a5 m c5] 29)) a3 (whB l kind)) := (HY34.out.keep hb5).keep ((Below.refl _ _).alloc (Nat.le_refl _) _); have HY55 : Hid (Bytes (w5.alloc (.cells #[.int .i64 kk, .int .i64 ss, .slice a5 m c5] 29)) a5 (whB l kind)) := hy5.keep ((Below.refl _ _).alloc (Nat.le_refl _) _); clear ho5 hb5 hy5)
    | ((with_reducible refine frm_load 29 ?_); first | refine wpList_load_frm rfl _ rfl HF5.out rfl ?_ | refine wpList_load_frm rfl _ rfl HF6.out rfl ?_)
    | (go_at_call 19; refine (fsame_any kk ss kk ss (whB l kind) (whB l kind) m m a3 a5 c3 c5 _ HM.out HM.out HY35.out HY55.out hmm hmm rfl rfl).mono ?_; simp only [decide_true]; rintro r w7 ⟨rfl, hb7⟩; have HB7 : Hid (Below w.heap.size w w7) := below_next (HB5.out.alloc HB5.out.size _) hb7; clear hb7))
  go_ret
  exact ⟨rfl, HB7.out⟩
theorem own : ownKnob Tryd.prog.godebug = none := by kernel_rfl
theorem laidOut : laidOutB Tryd.prog = true := by kernel_rfl
set_option maxRecDepth 100000 in
theorem contract (H : Type) (enc : TypeId × Value → H) (W : World) (base : Nat) (args : Array Value) (ds gs : List (DataW H)) (before : List MemPlace)
    (hval : ∀ (j : Nat) t v, Tryd.f5.params[j]? = some t → args[j]? = some v → Value.okWide Tryd.prog W .any base t v)
    (hW : DataW.Whole enc Tryd.prog Tryd.f5.params.toList Rows.frameWholesSpec.vars false W args.toList ds gs before)
    (hsz : (DataW.weightsEach Tryd.prog (Tryd.f5.params.toList ++ Rows.frameWholesSpec.plain.varTypes Tryd.prog) (ds ++ gs)).all (· ≤ reachBytes) = true) (hL : laidMetH Tryd.prog ([("daybook/crc.halves", Rows.laid_daybook_crc_halves)]) W) :
    Calls Tryd.prog 5 args W fun e W' => ∃ v, e = .returned v ∧ Rows.frameWholesSpec.post enc Tryd.prog Tryd.f5 false true false false W args v W' := by
  have hW' := hW
  obtain ⟨p, q, hA0, hV, rfl, hfz, hnd⟩ := hW
  have hA : DataW.TrodAll enc Tryd.prog W 0 (fun _ => true) true Tryd.f5.params.toList args.toList ds p := hA0
  rw [Tryd.params5] at hA hval hsz
  obtain ⟨v0, vs0, d0, ds0, p0, q0, hargs, rfl, rfl, h0, r0⟩ := trodAll_cons hA
  obtain ⟨v1, vs1, d1, ds1, p1, q1, rfl, rfl, rfl, h1, r1⟩ := trodAll_cons r0
  obtain ⟨rfl, rfl, rfl⟩ := trodAll_nil r1
  obtain rfl : args = #[v0, v1] := by cases args; simp_all
  obtain ⟨rfl, rfl⟩ := trodVars_none hV
  obtain ⟨a0, len0, cap0, rfl⟩ := okWide_slice Tryd.underlying22 (hval 0 22 v0 rfl rfl)
  have k0 := h0
  have lt0 : ∀ x ∈ p0, x.block < W.heap.size := by obtain ⟨m, hm⟩ := k0; exact DataW.trod_lt m _ _ _ hm
  obtain ⟨l0, hlen0, w0, c0⟩ : ∃ l : List Nat, l.length = len0 ∧ Bytes W a0 l ∧ Came W a0 len0 cap0 1 := by
    obtain ⟨fuel, hf⟩ := h0
    rcases open_ints Tryd.underlying22 Tryd.underlying5 (by kernel_rfl) hf with ⟨hcs, hx⟩ | ⟨x, l, c, zs, hcs, _, hl, hm, hz, hx, hcell, hwz⟩
    · simp [Value.cells] at hcs
      obtain ⟨rfl, rfl, rfl⟩ := hcs
      exact ⟨[], rfl, ⟨by simp, .inl rfl⟩, ⟨Nat.le_refl _, by simp, fun _ => rfl⟩⟩
    · simp [Value.cells] at hcs
      obtain ⟨rfl, rfl, rfl⟩ := hcs
      have hz2 : zs.length = cap0 := by simpa using hz
      obtain ⟨ll, e1, e2, e3⟩ := row_nats .u8 256 (by decide) wf_u8 W x zs len0 (by omega) hcell hwz
      have hd : d0 = .slice (lits .u8 (zs.take len0)) (lits .u8 (zs.drop len0)) := (Prod.mk.inj hx).1
      have hreach : cap0 * 1 ≤ 140737488351232 := by
        have := sized_slice hsz (j := 0) (t := 22) (e := 5) rfl (by rw [hd]; rfl) Tryd.underlying22
        rw [show Tryd.prog.bytesOf 5 = 1 from by kernel_rfl] at this
        simp only [lits, List.length_map, List.length_take, List.length_drop, reachBytes] at this
        have hmin : min len0 zs.length = len0 := Nat.min_eq_left (by omega)
        rw [hmin] at this
        have hcap : len0 + (zs.length - len0) = cap0 := by omega
        rw [hcap] at this
        exact this
      exact ⟨ll, e1, ⟨e2, e3⟩, ⟨hl, hreach, fun h => by cases h⟩⟩
  subst hlen0
  obtain ⟨a1, rfl, rfl, rfl, w1⟩ := open_int Tryd.underlying3 (hval 1 3 v1 rfl rfl) h1
  clear hA0
  refine (walk l0 a0 cap0 a1 W w0 c0 w1 (tab_of hL)).mono fun e W' ⟨he, bel⟩ => ?_
  subst he
  exact ⟨_, rfl, _, _, _, [], _, [], hW', trodAll_mk1 (shut_bool Tryd.underlying4 _), (trodAll_cons_mk (Below.trod laidOut (by kernel_rfl) (of_decide_eq_true (by kernel_rfl)) k0 bel lt0) (trodAll_cons_mk (shut_int Tryd.underlying3 w1) trodAll_mk0)), rfl, bel.frame _, fun h => by cases h⟩
set_option maxRecDepth 100000 in
theorem start (os : Os) : ∃ w0 : World, w0.os = os ∧ (w0.forCall (fun _ _ => 0) ⟨#[], #[.slice none 0 0, .int .i64 0], []⟩).variablesB Tryd.prog = true ∧
    ((w0.forCall (fun _ _ => 0) ⟨#[], #[.slice none 0 0, .int .i64 0], []⟩).heap.toList.drop Tryd.prog.globals.size).take ((begin Tryd.prog (fun _ _ => 0) default).world.heap.size - Tryd.prog.globals.size) = (begin Tryd.prog (fun _ _ => 0) default).world.heap.toList.drop Tryd.prog.globals.size ∧
    Input.okWideB Tryd.prog (w0.forCall (fun _ _ => 0) ⟨#[], #[.slice none 0 0, .int .i64 0], []⟩) 5 ⟨#[], #[.slice none 0 0, .int .i64 0], []⟩ = true ∧
    laidMet Tryd.prog Rows.frameWholesRow.laid (w0.forCall (fun _ _ => 0) ⟨#[], #[.slice none 0 0, .int .i64 0], []⟩).memory ∧
    ∀ (H : Type) (enc : TypeId × Value → H), DataW.whole enc Tryd.prog (w0.forCall (fun _ _ => 0) ⟨#[], #[.slice none 0 0, .int .i64 0], []⟩).memory Tryd.f5.params.toList Rows.frameWholesSpec.vars false (#[.slice none 0 0, .int .i64 0] : Array Value).toList 8 = some ([.nil, .lit (.int .i64 0)], [], []) :=
  ⟨{ World.holding Tryd.prog os ⟨#[], #[], []⟩ with heap := (World.holding Tryd.prog os ⟨#[], #[], []⟩).heap.modify 0 fun
      | .cells _ t frozen => .cells #[.int .u32 0, .int .u32 498536548, .int .u32 997073096, .int .u32 651767980, .int .u32 1994146192, .int .u32 1802195444, .int .u32 1303535960, .int .u32 1342533948, .int .u32 3988292384, .int .u32 4027552580, .int .u32 3604390888, .int .u32 3412177804, .int .u32 2607071920, .int .u32 2262029012, .int .u32 2685067896, .int .u32 3183342108] t frozen
      | o => o }, rfl, by kernel_rfl, by kernel_rfl, by kernel_rfl, laidMet_of_run' 8 (by kernel_rfl) (by kernel_rfl), fun _ _ => by kernel_rfl⟩
set_option maxRecDepth 100000 in
theorem lifted (os : Os) (started : os.Started) (H : Type) (enc : TypeId × Value → H) (F : Stop.Interp) :
    ReturnsInHanded {} Tryd.checked os 5 .any ((OpenSpec.ofChange Rows.frameWholesSpec).preRow enc Tryd.prog Tryd.f5 Rows.frameWholesRow.domain false Rows.frameWholesRow.laid) (((OpenSpec.ofChange Rows.frameWholesSpec).at F).post enc Tryd.prog Tryd.f5 false true false false) := by
  obtain ⟨w0, h1, h2, h3, h4, h5, h6⟩ := start os
  refine returnsInHanded_of_row (C := Tryd.checked) (s := OpenSpec.ofChange Rows.frameWholesSpec) own started (by kernel_rfl) Tryd.func5
    (witness_row_at (enc := enc) (C := Tryd.checked) false w0 #[.slice none 0 0, .int .i64 0] h1 h2 h3 h4
      (OpenSpec.preRow_of_cond 8 (h6 H enc) (by kernel_rfl) (fun k hk => by cases hk) (by kernel_rfl) h5)) ?_
  intro W base args ds gs before hval hW _ hcond hsz hL _ _
  exact contract H enc W base args ds gs before hval hW hsz hL
theorem said : Rows.FrameWholesSaid :=
  OpenClaim.holds_of_cond 5 Tryd.f5 rfl rfl rfl rfl rfl rfl rfl ⟨rfl, rfl, rfl, rfl, rfl⟩ rfl rfl rfl rfl rfl (by kernel_rfl) Tryd.func5 (by kernel_rfl)
    (of_decide_eq_true (by kernel_rfl)) (by unfold Func.isWrapper; first | (rw [if_pos (by decide +kernel)]; kernel_rfl) | (rw [if_neg (by decide +kernel)]; exact ⟨rfl, rfl⟩))
    (fun os started H enc _ F => by rw [OpenClaim.pre_eq_preRow]; exact lifted os started H enc F)
theorem plain (f : FuncId) (fn : Func) (hf : Tryd.pinned.checked.prog.funcNamed "daybook/daybooklaw11.FrameWholes" = some f) (hfn : Tryd.pinned.checked.prog.funcs[f]? = some fn) :
    false = Tryd.pinned.checked.prog.looks [] ∧ ∀ (j : Nat) t, fn.params[j]? = some t → Tryd.pinned.checked.prog.wantsStandIn t = false := by
  obtain rfl : f = 5 := Option.some.inj ((show Tryd.prog.funcNamed "daybook/daybooklaw11.FrameWholes" = some 5 by kernel_rfl).symm.trans hf) |>.symm
  obtain rfl : fn = Tryd.f5 := (Option.some.inj (Tryd.func5.symm.trans hfn)).symm
  refine ⟨by kernel_rfl, fun j t ht => ?_⟩
  rw [Tryd.params5] at ht
  have hm := Array.mem_of_getElem? ht
  have hall : ∀ t ∈ (#[22, 3] : Array TypeId), Tryd.prog.wantsStandIn t = false := by
    intro t ht
    simp only [List.mem_toArray, List.mem_cons, List.not_mem_nil, or_false] at ht
    rcases ht with rfl | rfl <;> kernel_rfl
  exact hall t hm
theorem card : Rows.FrameWholesCardSaid :=
  Claim7.holds_tied_plain_at .later [] _ _ _ _ said (fun _ h => by cases h) (by kernel_rfl) (fun _ h => by cases h) frameWholes_row_tie rfl ⟨rfl, rfl⟩ (by kernel_rfl) rfl plain (by kernel_rfl)
end Go.Proofs.YtogklgpghecclaaDoor.frameWholes
