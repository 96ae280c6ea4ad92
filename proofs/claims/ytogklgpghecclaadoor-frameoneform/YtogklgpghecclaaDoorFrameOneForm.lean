/- For every text: what frame.Decode reads at its beginning is what frame.Encode would lay, and frame.Peek tells the same; where it reads nothing it answers nothing. No condition. -/
import Derived.Test.YtogklgpghecclaaDoorCrcTie
import Derived.Test.YtogklgpghecclaaDoorFr5
import Derived.Test.YtogklgpghecclaaDoorCopy
import Derived.Test.YtogklgpghecclaaDoorSame
import Derived.SizedLaws
import Derived.ChangeOld
namespace Go.Proofs.YtogklgpghecclaaDoor.frameOneForm
open Go.ChangeShapes Go.WideShapes Go.ChangeAt Go.RowKit
set_option linter.unusedVariables false
set_option maxRecDepth 20000 in
set_option maxHeartbeats 1000000 in
theorem walk (l : List Nat) (a : Option Addr) (cap : Nat) (w : World) (hb : Bytes w a l) (hc : Came w a l.length cap 1) (ht : Tab w) :
    Calls Tryd.prog 8 #[.slice a l.length cap] w fun e w' => e = .returned (.bool true) ∧ Below w.heap.size w w' := by
  obtain ⟨hf, hr, hn⟩ := hc
  have hl : l.length ≤ 140737488351232 := by omega
  have HB : Hid (Bytes w a l) := hb
  have HT : Hid (Tab w) := ht
  obtain ⟨n, hN⟩ : ∃ n, l.length = n := ⟨_, rfl⟩
  have HN : Hid (l.length = n) := hN
  rw [hN] at hl hf ⊢
  have HCP : Hid (∀ w1, Below w.heap.size w w1 → Calls Tryd.prog 11 #[.slice a n cap] w1 fun e w' => ∃ v, e = .returned v ∧ Own w' w1.heap.size v l ∧ Below w1.heap.size w1 w') := fun w1 hb1 => by
    have := copy_any l a cap w1 (hb.keep hb1) (by rw [hN]; omega)
    rw [hN] at this
    exact this
  have HDC : Hid (∀ w1 a1 c1, Below w.heap.size w w1 → Bytes w1 a1 l → n ≤ c1 → Calls Tryd.prog 18 #[.slice a1 n c1] w1 fun r w' => ∃ v, r = .returned (DV l v) ∧ Own w' w1.heap.size v (decB l) ∧ Below w1.heap.size w1 w') := fun w1 a1 c1 hb1 hy1 hc1 => fdec_any l n a1 c1 w1 hN hy1 (by omega) (by omega) (ht.keep hb1)
  clear hb ht hN
  by_cases hE : decE l = 0
  · obtain ⟨h1, h2, h3⟩ := decE_zero hE
    obtain ⟨h4, h5, h6, h7, h8, h9, h10⟩ := peekE_zero h1
    have HD : Hid (∀ v, _ ∧ _) := fun v => dv_good l v hE
    have HP : Hid (PV l = _) := pv_good l h1
    have HFo : Hid (l.take (pn l + 20) = frameL (pk l) (ps l) ((l.drop 16).take (pn l))) := dec_form l HB.out.mem hE
    obtain ⟨p, hpp⟩ : ∃ p, pn l = p := ⟨_, rfl⟩
    obtain ⟨s, hss⟩ : ∃ s, ps l = s := ⟨_, rfl⟩
    obtain ⟨k, hkk⟩ : ∃ k, pk l = k := ⟨_, rfl⟩
    rw [hpp, hss, hkk] at HD HP HFo
    rw [hpp] at h7 h2
    rw [hkk] at h8 h9
    rw [hss] at h10
    have HBL : Hid (((l.drop 16).take p).length = p) := by show _ = _; rw [List.length_take, List.length_drop]; omega
    have HTL : Hid ((l.take (p + 20)).length = p + 20) := by show _ = _; rw [List.length_take]; omega
    have HPK : Hid (∀ w1, Below w.heap.size w w1 → Calls Tryd.prog 16 #[.slice a n cap] w1 fun e w' => e = .returned (PV l) ∧ Below w1.heap.size w1 w') := fun w1 hb1 => peek_any l n a cap w1 HN.out (HB.out.keep hb1) (by have := HN.out; omega) (by have := HN.out; omega) (HT.out.keep hb1)
    have HEE : Hid (encE (k : Int) (s : Int) p = 0) := by show _ = _; unfold encE; rw [if_neg (by unfold inB; simp; omega), if_neg (by omega)]
    have HEL : Hid (encL (k : Int) (s : Int) ((l.drop 16).take p) = l.take (p + 20)) := by
      show _ = _
      unfold encL
      rw [HBL.out, HEE.out, if_pos rfl, HFo.out]
      rfl
    have hne : l ≠ [] := by intro h; subst h; simp at h4
    obtain ⟨b, off, rfl, hlt, _⟩ := HB.out.nonempty hne
    have h2n : p + 20 ≤ n := by have := HN.out; omega
    have hi1 : (p : Int) ≤ 16384 := by omega
    have hi2 : (p : Int) + 20 ≤ (n : Int) := by omega
    have hi3 : (p : Int) + 20 ≤ (cap : Int) := by omega
    have hi4 : ¬ (p : Int) + 20 < 20 := by omega
    obtain ⟨q, hq⟩ : ∃ q, p + 20 = q := ⟨_, rfl⟩
    have hqm : q ≤ 20000 := by omega
    have HQ : Hid ((p : Int) + 20 = (q : Int)) := by show _ = _; omega
    rw [hq] at HTL HEL
    rw [show (p : Int) + 20 = (q : Int) from by omega] at HD HP hi2 hi3 hi4
    clear h1 h2 h3 h4 h5 h6 h7 h8 h9 h10 hE hpp hss hkk hne hr hn hl hq h2n
    go_enter Tryd.func8, Tryd.ntmps8
    go_wp2_with (first
      | (go_at_call 9; refine (head11_any w HT.out).mono ?_; rintro e w1 ⟨rfl, hb1⟩; have HB1 : Hid (Below w.heap.size w w1) := hb1; clear hb1)
      | (go_at_call 11; refine (HCP.out _ HB1.out).mono ?_; rintro e w2 ⟨v2, rfl, ho2, hb2⟩; obtain ⟨a2, c2, hv2, hc2, _, hy2, _⟩ := ho2.shape; rw [HN.out] at hv2 hc2; subst hv2; have HB2 : Hid (Below w.heap.size w w2) := below_next HB1.out hb2; have HY2 : Hid (Bytes w2 a2 l) := hy2; clear ho2 hb2 hy2)
      | (go_at_call 18; refine (HDC.out _ _ _ HB2.out HY2.out hc2).mono ?_; rintro r w3 ⟨v3, rfl, ho3, hb3⟩; rw [(HD.out v3).1]; rw [(HD.out v3).2] at ho3; obtain ⟨a3, c3, hv3, hc3, _, hy3, hs3⟩ := ho3.shape; rw [HBL.out] at hv3 hc3; subst hv3; have HB3 : Hid (Below w.heap.size w w3) := below_next HB2.out hb3; have HY3 : Hid (Bytes w3 a3 ((l.drop 16).take p)) := hy3; have HS3 : Hid (_ ∨ _) := hs3; clear ho3 hb3 hy3 hs3)
      | (go_at_call 13; refine (fenc_any (k : Int) (s : Int) ((l.drop 16).take p) p a3 c3 _ HBL.out (HY3.out.keep ((Below.refl _ _).alloc (Nat.le_refl _) _)) (fun h => by rcases HS3.out with h2 | ⟨g, h2, _⟩; exact h2.2.2; rw [h] at h2; cases h2) (by omega) (fun x h => by rcases HS3.out with h2 | ⟨g, h2, _⟩; rw [h2.1] at h; cases h; rw [h2] at h; cases h; exact ⟨g, 0, rfl⟩) (HT.out.keep (HB3.out.alloc HB3.out.size _))).mono ?_; rw [HEE.out, HEL.out]; rintro r w4 ⟨v4, rfl, ho4, hb4⟩; have HB4 : Hid (Below w.heap.size w w4) := below_next (HB3.out.alloc HB3.out.size _) hb4; have HF4 : Hid (FrmAt w4 w3.heap.size k s (.slice a3 p c3)) := (FrmAt.new w3 k s (.slice a3 p c3)).keep hb4; obtain ⟨a4, c4, hv4, _, _, hy4, _⟩ := ho4.shape; rw [HTL.out] at hv4; subst hv4; have HY4 : Hid (Bytes w4 a4 (l.take q)) := hy4; clear ho4 hb4 hy4)
      | (go_at_call 16; refine (HPK.out _ HB4.out).mono ?_; rw [HP.out]; rintro r w5 ⟨rfl, hb5⟩; have HB5 : Hid (Below w.heap.size w w5) := below_next HB4.out hb5; obtain ⟨x0, x1, x2⟩ := (HF4.out.keep hb5).cells; have HY5 : Hid (Bytes w5 a4 (l.take q)) := HY4.out.keep hb5; clear hb5)
      | (go_at_call 14; refine (same_at (l.take q) (l.take q) _ _ _ _ _ _ _ HTL.out HTL.out HY5.out ((HB.out.keep HB5.out).take q) (by rw [HTL.out]; unfold maxLen; omega) (by rw [HTL.out]; unfold maxLen; omega)).mono ?_; simp only [decide_true]; rintro r w6 ⟨rfl, nq, rfl⟩))
    go_ret
    exact ⟨rfl, below_drewN HB5.out nq⟩
  · obtain ⟨e0, he⟩ : ∃ e, decE l = e := ⟨_, rfl⟩
    have HD : Hid (∀ v, _ ∧ _) := fun v => dv_none l v e0 he (by omega)
    have heI : ((e0 : Int) != 0) = true := by simp; omega
    clear hE he hr hn hl
    go_enter Tryd.func8, Tryd.ntmps8
    go_wp2_with (first
      | (go_at_call 9; refine (head11_any w HT.out).mono ?_; rintro e w1 ⟨rfl, hb1⟩; have HB1 : Hid (Below w.heap.size w w1) := hb1; clear hb1)
      | (go_at_call 11; refine (HCP.out _ HB1.out).mono ?_; rintro e w2 ⟨v2, rfl, ho2, hb2⟩; obtain ⟨a2, c2, hv2, hc2, _, hy2, _⟩ := ho2.shape; rw [HN.out] at hv2 hc2; subst hv2; have HB2 : Hid (Below w.heap.size w w2) := below_next HB1.out hb2; have HY2 : Hid (Bytes w2 a2 l) := hy2; clear ho2 hb2 hy2)
      | (go_at_call 18; refine (HDC.out _ _ _ HB2.out HY2.out hc2).mono ?_; rintro r w3 ⟨v3, rfl, ho3, hb3⟩; rw [(HD.out v3).1]; rw [(HD.out v3).2] at ho3; obtain ⟨a3, c3, hv3, hc3, _, hy3, hs3⟩ := ho3.shape; rw [List.length_nil] at hv3 hc3; subst hv3; have HB3 : Hid (Below w.heap.size w w3) := below_next HB2.out hb3; clear ho3 hb3 hy3 hs3))
    go_ret
    exact ⟨rfl, HB3.out.alloc HB3.out.size _⟩
theorem own : ownKnob Tryd.prog.godebug = none := by kernel_rfl
theorem laidOut : laidOutB Tryd.prog = true := by kernel_rfl
set_option maxRecDepth 100000 in
theorem contract (H : Type) (enc : TypeId × Value → H) (W : World) (base : Nat) (args : Array Value) (ds gs : List (DataW H)) (before : List MemPlace)
    (hval : ∀ (j : Nat) t v, Tryd.f8.params[j]? = some t → args[j]? = some v → Value.okWide Tryd.prog W .any base t v)
    (hW : DataW.Whole enc Tryd.prog Tryd.f8.params.toList Rows.frameOneFormSpec.vars false W args.toList ds gs before)
    (hsz : (DataW.weightsEach Tryd.prog (Tryd.f8.params.toList ++ Rows.frameOneFormSpec.plain.varTypes Tryd.prog) (ds ++ gs)).all (· ≤ reachBytes) = true) (hL : laidMetH Tryd.prog ([("daybook/crc.halves", Rows.laid_daybook_crc_halves)]) W) :
    Calls Tryd.prog 8 args W fun e W' => ∃ v, e = .returned v ∧ Rows.frameOneFormSpec.post enc Tryd.prog Tryd.f8 false true false false W args v W' := by
  have hW' := hW
  obtain ⟨p, q, hA0, hV, rfl, hfz, hnd⟩ := hW
  have hA : DataW.TrodAll enc Tryd.prog W 0 (fun _ => true) true Tryd.f8.params.toList args.toList ds p := hA0
  rw [Tryd.params8] at hA hval hsz
  obtain ⟨v0, vs0, d0, ds0, p0, q0, hargs, rfl, rfl, h0, r0⟩ := trodAll_cons hA
  obtain ⟨rfl, rfl, rfl⟩ := trodAll_nil r0
  obtain rfl : args = #[v0] := by cases args; simp_all
  obtain ⟨rfl, rfl⟩ := trodVars_none hV
  obtain ⟨a0, len0, cap0, rfl⟩ := okWide_slice Tryd.underlying22 (hval 0 22 v0 rfl rfl)
  have k0 := h0
  have lt0 : ∀ x ∈ p0, x.block < W.heap.size := by obtain ⟨m, hm⟩ := k0; exact DataW.trod_lt m _ _ _ hm
  obtain ⟨l0, hlen0, w0, c0⟩ : ∃ l : List Nat, l.length = len0 ∧ Bytes W a0 l ∧ Came W a0 len0 cap0 1 := by
    obtain ⟨fuel, hf⟩ := h0
    rcases open_ints Tryd.underlying22 Tryd.underlying5 (by kernel_rfl) hf with ⟨hcs, hx⟩ | ⟨x, l, c, zs, hcs, _, hl, hm, hz, hx, hcell, hwz⟩
    · simp [Value.cells] at hcs
      obtain ⟨rfl, rfl, rfl⟩ := hcs
      exact ⟨[], rfl, ⟨by simp, .inl rfl⟩, ⟨Nat.le_refl _, by simp, fun _ => rfl⟩⟩
    · simp [Value.cells] at hcs
      obtain ⟨rfl, rfl, rfl⟩ := hcs
      have hz2 : zs.length = cap0 := by simpa using hz
      obtain ⟨ll, e1, e2, e3⟩ := row_nats .u8 256 (by decide) wf_u8 W x zs len0 (by omega) hcell hwz
      have hd : d0 = .slice (lits .u8 (zs.take len0)) (lits .u8 (zs.drop len0)) := (Prod.mk.inj hx).1
      have hreach : cap0 * 1 ≤ 140737488351232 := by
        have := sized_slice hsz (j := 0) (t := 22) (e := 5) rfl (by rw [hd]; rfl) Tryd.underlying22
        rw [show Tryd.prog.bytesOf 5 = 1 from by kernel_rfl] at this
        simp only [lits, List.length_map, List.length_take, List.length_drop, reachBytes] at this
        have hmin : min len0 zs.length = len0 := Nat.min_eq_left (by omega)
        rw [hmin] at this
        have hcap : len0 + (zs.length - len0) = cap0 := by omega
        rw [hcap] at this
        exact this
      exact ⟨ll, e1, ⟨e2, e3⟩, ⟨hl, hreach, fun h => by cases h⟩⟩
  subst hlen0
  clear hA0
  refine (walk l0 a0 cap0 W w0 c0 (tab_of hL)).mono fun e W' ⟨he, bel⟩ => ?_
  subst he
  exact ⟨_, rfl, _, _, _, [], _, [], hW', trodAll_mk1 (shut_bool Tryd.underlying4 _), (trodAll_cons_mk (Below.trod laidOut (by kernel_rfl) (of_decide_eq_true (by kernel_rfl)) k0 bel lt0) trodAll_mk0), rfl, bel.frame _, fun h => by cases h⟩
set_option maxRecDepth 100000 in
theorem start (os : Os) : ∃ w0 : World, w0.os = os ∧ (w0.forCall (fun _ _ => 0) ⟨#[], #[.slice none 0 0], []⟩).variablesB Tryd.prog = true ∧
    ((w0.forCall (fun _ _ => 0) ⟨#[], #[.slice none 0 0], []⟩).heap.toList.drop Tryd.prog.globals.size).take ((begin Tryd.prog (fun _ _ => 0) default).world.heap.size - Tryd.prog.globals.size) = (begin Tryd.prog (fun _ _ => 0) default).world.heap.toList.drop Tryd.prog.globals.size ∧
    Input.okWideB Tryd.prog (w0.forCall (fun _ _ => 0) ⟨#[], #[.slice none 0 0], []⟩) 8 ⟨#[], #[.slice none 0 0], []⟩ = true ∧
    laidMet Tryd.prog Rows.frameOneFormRow.laid (w0.forCall (fun _ _ => 0) ⟨#[], #[.slice none 0 0], []⟩).memory ∧
    ∀ (H : Type) (enc : TypeId × Value → H), DataW.whole enc Tryd.prog (w0.forCall (fun _ _ => 0) ⟨#[], #[.slice none 0 0], []⟩).memory Tryd.f8.params.toList Rows.frameOneFormSpec.vars false (#[.slice none 0 0] : Array Value).toList 8 = some ([.nil], [], []) :=
  ⟨{ World.holding Tryd.prog os ⟨#[], #[], []⟩ with heap := (World.holding Tryd.prog os ⟨#[], #[], []⟩).heap.modify 0 fun
      | .cells _ t frozen => .cells #[.int .u32 0, .int .u32 498536548, .int .u32 997073096, .int .u32 651767980, .int .u32 1994146192, .int .u32 1802195444, .int .u32 1303535960, .int .u32 1342533948, .int .u32 3988292384, .int .u32 4027552580, .int .u32 3604390888, .int .u32 3412177804, .int .u32 2607071920, .int .u32 2262029012, .int .u32 2685067896, .int .u32 3183342108] t frozen
      | o => o }, rfl, by kernel_rfl, by kernel_rfl, by kernel_rfl, laidMet_of_run' 8 (by kernel_rfl) (by kernel_rfl), fun _ _ => by kernel_rfl⟩
set_option maxRecDepth 100000 in
theorem lifted (os : Os) (started : os.Started) (H : Type) (enc : TypeId × Value → H) (F : Stop.Interp) :
    ReturnsInHanded {} Tryd.checked os 8 .any ((OpenSpec.ofChange Rows.frameOneFormSpec).preRow enc Tryd.prog Tryd.f8 Rows.frameOneFormRow.domain false Rows.frameOneFormRow.laid) (((OpenSpec.ofChange Rows.frameOneFormSpec).at F).post enc Tryd.prog Tryd.f8 false true false false) := by
  obtain ⟨w0, h1, h2, h3, h4, h5, h6⟩ := start os
  refine returnsInHanded_of_row (C := Tryd.checked) (s := OpenSpec.ofChange Rows.frameOneFormSpec) own started (by kernel_rfl) Tryd.func8
    (witness_row_at (enc := enc) (C := Tryd.checked) false w0 #[.slice none 0 0] h1 h2 h3 h4
      (OpenSpec.preRow_of_cond 8 (h6 H enc) (by kernel_rfl) (fun k hk => by cases hk) (by kernel_rfl) h5)) ?_
  intro W base args ds gs before hval hW _ hcond hsz hL _ _
  exact contract H enc W base args ds gs before hval hW hsz hL
theorem said : Rows.FrameOneFormSaid :=
  OpenClaim.holds_of_cond 8 Tryd.f8 rfl rfl rfl rfl rfl rfl rfl ⟨rfl, rfl, rfl, rfl, rfl⟩ rfl rfl rfl rfl rfl (by kernel_rfl) Tryd.func8 (by kernel_rfl)
    (of_decide_eq_true (by kernel_rfl)) (by unfold Func.isWrapper; first | (rw [if_pos (by decide +kernel)]; kernel_rfl) | (rw [if_neg (by decide +kernel)]; exact ⟨rfl, rfl⟩))
    (fun os started H enc _ F => by rw [OpenClaim.pre_eq_preRow]; exact lifted os started H enc F)
theorem plain (f : FuncId) (fn : Func) (hf : Tryd.pinned.checked.prog.funcNamed "daybook/daybooklaw11.FrameOneForm" = some f) (hfn : Tryd.pinned.checked.prog.funcs[f]? = some fn) :
    false = Tryd.pinned.checked.prog.looks [] ∧ ∀ (j : Nat) t, fn.params[j]? = some t → Tryd.pinned.checked.prog.wantsStandIn t = false := by
  obtain rfl : f = 8 := Option.some.inj ((show Tryd.prog.funcNamed "daybook/daybooklaw11.FrameOneForm" = some 8 by kernel_rfl).symm.trans hf) |>.symm
  obtain rfl : fn = Tryd.f8 := (Option.some.inj (Tryd.func8.symm.trans hfn)).symm
  refine ⟨by kernel_rfl, fun j t ht => ?_⟩
  rw [Tryd.params8] at ht
  have hm := Array.mem_of_getElem? ht
  have hall : ∀ t ∈ (#[22] : Array TypeId), Tryd.prog.wantsStandIn t = false := by
    intro t ht
    simp only [List.mem_toArray, List.mem_cons, List.not_mem_nil, or_false] at ht
    rcases ht with rfl <;> kernel_rfl
  exact hall t hm
theorem card : Rows.FrameOneFormCardSaid :=
  Claim7.holds_tied_plain_at .later [] _ _ _ _ said (fun _ h => by cases h) (by kernel_rfl) (fun _ h => by cases h) frameOneForm_row_tie rfl ⟨rfl, rfl⟩ (by kernel_rfl) rfl plain (by kernel_rfl)
end Go.Proofs.YtogklgpghecclaaDoor.frameOneForm
