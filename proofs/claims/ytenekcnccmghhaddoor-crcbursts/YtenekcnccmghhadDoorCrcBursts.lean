/- For every text, every place and every run of up to 32 turned bits: a text with its sum behind it is told when it is turned, and is closed when it is not. No condition. -/
import Derived.Test.YtenekcnccmghhadDoorCrcTie
import Derived.Test.YtenekcnccmghhadDoorHead03
import Derived.Test.YtenekcnccmghhadDoorClosed
import Derived.Test.YtenekcnccmghhadDoorJoin
import Derived.Test.YtenekcnccmghhadDoorTurn
import Derived.Test.YtenekcnccmghhadDoorSame
import Derived.SizedLaws
import Derived.ChangeOld
namespace Go.Proofs.YtenekcnccmghhadDoor.crcBursts
open Go.ChangeShapes Go.WideShapes Go.ChangeAt Go.RowKit
set_option linter.unusedVariables false
theorem closed_reg (l : List Nat) (hl : ∀ x ∈ l, x < 256) (h4 : 4 ≤ l.length) : closedB l = decide (Crcm.upd Crcm.ones l = Crcm.shN 32 Crcm.ones) := by
  unfold closedB
  have h := Crcm.closed_iff (l.take (l.length - 4)) (l.drop (l.length - 4)) (fun x hx => hl x (List.mem_of_mem_take hx)) (fun x hx => hl x (List.mem_of_mem_drop hx)) (by rw [List.length_drop]; omega)
  rw [List.take_append_drop] at h
  rw [decide_eq_decide]
  exact ⟨fun hh => h.1 hh.2, fun hh => ⟨h4, h.2 hh⟩⟩
theorem closed_whole (l : List Nat) (hl : ∀ x ∈ l, x < 256) : closedB (l ++ Crcm.four (Crcm.sum l)) = true := by
  unfold closedB
  have hn : (l ++ Crcm.four (Crcm.sum l)).length = l.length + 4 := by rw [List.length_append]; rfl
  rw [hn, show l.length + 4 - 4 = l.length from by omega, List.drop_left, List.take_left]
  simp
theorem told (l t : List Nat) (at0 P : Nat) (hl : ∀ x ∈ l, x < 256) (ht : ∀ x ∈ t, x < 256) (hn : t.length = l.length) (h4 : 4 ≤ l.length) (hP : P < 2 ^ 32) (hat : at0 < 8 * l.length) (hc : closedB l = true)
    (hv : Crcm.val t = Crcm.val l ^^^ turned at0 P (8 * l.length - at0) 32) : closedB t = decide (t = l) := by
  rw [closed_reg l hl h4] at hc
  rw [closed_reg t ht (by omega), decide_eq_decide]
  have hcl : Crcm.upd Crcm.ones l = Crcm.shN 32 Crcm.ones := of_decide_eq_true hc
  have hE : turned at0 P (8 * l.length - at0) 32 = 2 ^ at0 * (P % 2 ^ (8 * l.length - at0)) := by
    unfold turned
    by_cases hm : 8 * l.length - at0 ≤ 32
    · rw [Nat.min_eq_right hm]
    · rw [Nat.min_eq_left (by omega), Nat.mod_eq_of_lt hP, Nat.mod_eq_of_lt (Nat.lt_of_lt_of_le hP (Nat.pow_le_pow_right (by omega) (by omega)))]
  constructor
  · intro h
    rw [← hcl, Crcm.upd_val _ t ht, Crcm.upd_val _ l hl, hn, hv, hE] at h
    have h0 := Crcm.burst l.length at0 P hP hat Crcm.ones (Crcm.val l) h
    rw [hE, h0, Nat.mul_zero, Nat.xor_zero] at hv
    exact Crcm.val_inj t l ht hl hn hv
  · intro h
    rw [h]
    exact hcl
theorem below_next {w a b : World} (h : Below w.heap.size w a) (k : Below a.heap.size a b) : Below w.heap.size w b := h.trans (k.mono h.size)
set_option maxRecDepth 20000 in
set_option maxHeartbeats 1000000 in
theorem walk (l : List Nat) (a : Option Addr) (cap : Nat) (a1 a2 : Int) (w : World) (hb : Bytes w a l) (hc : Came w a l.length cap 1) (w1 : (Lit.int .i64 a1).wf = true) (w2 : (Lit.int .u32 a2).wf = true) (ht : Tab w) :
    Calls Tryd.prog 6 #[.slice a l.length cap, .int .i64 a1, .int .u32 a2] w fun e w' => e = .returned (.bool true) ∧ Below w.heap.size w w' := by
  obtain ⟨hf, hr, hn⟩ := hc
  have hl : l.length ≤ maxLen := by unfold maxLen; omega
  have b2 : 0 ≤ a2 ∧ a2 ≤ 4294967295 := by simpa [Lit.wf, IntKind.min, IntKind.max, IntKind.signed, IntKind.bits] using w2
  obtain ⟨P, rfl⟩ := Int.eq_ofNat_of_zero_le b2.1
  have HP : Hid (P < 4294967296) := by show _ < _; omega
  have HB : Hid (Bytes w a l) := hb
  have HT : Hid (Tab w) := ht
  have HSL : Hid (Crcm.sum l < 4294967296) := Crcm.sum_lt l hb.mem
  obtain ⟨W, hW⟩ : ∃ W, W = l ++ Crcm.four (Crcm.sum l) := ⟨_, rfl⟩
  have hWn : W.length = l.length + 4 := by rw [hW, List.length_append]; rfl
  have HWC : Hid (closedB W = true) := by show _ = _; rw [hW]; exact closed_whole l hb.mem
  have HWM : Hid (∀ x ∈ W, x < 256) := by
    intro x hx
    rw [hW] at hx
    rcases List.mem_append.1 hx with h | h
    · exact hb.mem x h
    · exact Crcm.four_lt _ HSL.out x h
  have HWE : Hid (W = l ++ Crcm.four (Crcm.sum l)) := hW
  have hWl : W.length ≤ maxLen := by unfold maxLen; omega
  have hWb : W.length ≤ 281474976710656 := by omega
  have HNE : Hid (W ≠ []) := by intro h; rw [h] at hWn; simp at hWn
  have hW1 : W.length ≤ l.length + 4 := by omega
  have hW2 : l.length + 4 ≤ W.length := by omega
  clear hb ht hW b2 w2 hn hWn
  by_cases hin : 0 ≤ a1 ∧ a1 < 8 * ((l.length : Int) + 4)
  · obtain ⟨at0, rfl⟩ := Int.eq_ofNat_of_zero_le hin.1
    have HAT : Hid (at0 < 8 * W.length) := by show _ < _; omega
    have h1 : ¬ (at0 : Int) < 0 := by omega
    have h2 : ¬ 8 * (W.length : Int) ≤ (at0 : Int) := by omega
    have h3 : (W.length : Int) ≤ 281474976710656 := by omega
    clear hin w1
    go_enter Tryd.func6, Tryd.ntmps6
    go_wp2_with (first
      | (go_at_call 8; refine (head03_any w HT.out).mono ?_; rintro e w1 ⟨rfl, hb1⟩)
      | (go_at_call 10; refine (sum_any l _ _ _ _ rfl (HB.out.keep hb1) hl (HT.out.keep hb1)).mono ?_; rintro e w2 ⟨rfl, rfl⟩)
      | (go_at_call 13; refine (four_any _ _ HSL.out).mono ?_; rintro e w3 ⟨g, rfl, hby3, hb3⟩)
      | (go_at_call 15; refine (join_any l (Crcm.four (Crcm.sum l)) _ _ _ _ _ _ _ rfl rfl ((HB.out.keep hb1).keep hb3) hby3 (by show _ + 4 ≤ _; omega)).mono ?_; rw [← HWE.out]; rintro e w4 ⟨v4, rfl, ho4, hb4⟩; obtain ⟨g4, cap4, rfl, hcap4, hby4⟩ := ho4.row HNE.out; clear ho4; have HT4 : Hid (Tab w4) := ((HT.out.keep hb1).keep hb3).keep hb4)
      | (go_at_call_of 11 (cap4); refine (closed_any W _ _ _ _ rfl hby4 hWl hcap4 HT4.out).mono ?_; rw [HWC.out]; rintro e w5 ⟨rfl, hb5⟩)
      | (go_at_call 17; refine (turn_any W at0 P _ g4 0 _ _ rfl (hby4.keep hb5) HNE.out hWb HAT.out HP.out).mono ?_; rintro e w6 ⟨v6, t, rfl, htl, ho6, hval, hb6⟩; obtain ⟨a6, cap6, rfl, hcap6, _, hby6, _⟩ := ho6.shape; have HCT : Hid (closedB t = decide (t = W)) := told W t at0 P HWM.out hby6.mem htl (by omega) HP.out HAT.out HWC.out hval; have ht1 : t.length ≤ W.length := (by omega); clear ho6 hval htl)
      | (go_at_call 11; refine (closed_any t _ _ _ _ rfl hby6 (by omega) hcap6 ((HT4.out.keep hb5).keep hb6)).mono ?_; rw [HCT.out]; rintro e w7 ⟨rfl, hb7⟩)
      | (go_at_call 12; refine (same_at t W _ _ _ _ _ _ _ rfl rfl (hby6.keep hb7) (((hby4.keep hb5).keep hb6).keep hb7) (by omega) hWl).mono ?_; rintro e w8 ⟨rfl, nq, rfl⟩))
    go_ret
    exact ⟨rfl, below_drewN (below_next (below_next (below_next (below_next (below_next hb1 hb3) hb4) hb5) hb6) hb7) nq⟩
  · have hor : a1 < 0 ∨ (0 ≤ a1 ∧ 8 * ((l.length : Int) + 4) ≤ a1) := by omega
    clear hin w1
    rcases hor with h1 | ⟨h1, h2⟩
    · go_enter Tryd.func6, Tryd.ntmps6
      go_wp2_with (first
        | (go_at_call 8; refine (head03_any w HT.out).mono ?_; rintro e w1 ⟨rfl, hb1⟩)
        | (go_at_call 10; refine (sum_any l _ _ _ _ rfl (HB.out.keep hb1) hl (HT.out.keep hb1)).mono ?_; rintro e w2 ⟨rfl, rfl⟩)
        | (go_at_call 13; refine (four_any _ _ HSL.out).mono ?_; rintro e w3 ⟨g, rfl, hby3, hb3⟩)
        | (go_at_call 15; refine (join_any l (Crcm.four (Crcm.sum l)) _ _ _ _ _ _ _ rfl rfl ((HB.out.keep hb1).keep hb3) hby3 (by show _ + 4 ≤ _; omega)).mono ?_; rw [← HWE.out]; rintro e w4 ⟨v4, rfl, ho4, hb4⟩; obtain ⟨g4, cap4, rfl, hcap4, hby4⟩ := ho4.row HNE.out; clear ho4; have HT4 : Hid (Tab w4) := ((HT.out.keep hb1).keep hb3).keep hb4)
        | (go_at_call_of 11 (cap4); refine (closed_any W _ _ _ _ rfl hby4 hWl hcap4 HT4.out).mono ?_; rw [HWC.out]; rintro e w5 ⟨rfl, hb5⟩))
      go_ret
      exact ⟨rfl, below_next (below_next (below_next hb1 hb3) hb4) hb5⟩
    · have h3 : 8 * (W.length : Int) ≤ a1 := by omega
      have h4 : (W.length : Int) ≤ 281474976710656 := by omega
      clear h2
      go_enter Tryd.func6, Tryd.ntmps6
      go_wp2_with (first
        | (go_at_call 8; refine (head03_any w HT.out).mono ?_; rintro e w1 ⟨rfl, hb1⟩)
        | (go_at_call 10; refine (sum_any l _ _ _ _ rfl (HB.out.keep hb1) hl (HT.out.keep hb1)).mono ?_; rintro e w2 ⟨rfl, rfl⟩)
        | (go_at_call 13; refine (four_any _ _ HSL.out).mono ?_; rintro e w3 ⟨g, rfl, hby3, hb3⟩)
        | (go_at_call 15; refine (join_any l (Crcm.four (Crcm.sum l)) _ _ _ _ _ _ _ rfl rfl ((HB.out.keep hb1).keep hb3) hby3 (by show _ + 4 ≤ _; omega)).mono ?_; rw [← HWE.out]; rintro e w4 ⟨v4, rfl, ho4, hb4⟩; obtain ⟨g4, cap4, rfl, hcap4, hby4⟩ := ho4.row HNE.out; clear ho4; have HT4 : Hid (Tab w4) := ((HT.out.keep hb1).keep hb3).keep hb4)
        | (go_at_call_of 11 (cap4); refine (closed_any W _ _ _ _ rfl hby4 hWl hcap4 HT4.out).mono ?_; rw [HWC.out]; rintro e w5 ⟨rfl, hb5⟩))
      go_ret
      exact ⟨rfl, below_next (below_next (below_next hb1 hb3) hb4) hb5⟩
theorem own : ownKnob Tryd.prog.godebug = none := by kernel_rfl
theorem laidOut : laidOutB Tryd.prog = true := by kernel_rfl
set_option maxRecDepth 100000 in
theorem contract (H : Type) (enc : TypeId × Value → H) (W : World) (base : Nat) (args : Array Value) (ds gs : List (DataW H)) (before : List MemPlace)
    (hval : ∀ (j : Nat) t v, Tryd.f6.params[j]? = some t → args[j]? = some v → Value.okWide Tryd.prog W .any base t v)
    (hW : DataW.Whole enc Tryd.prog Tryd.f6.params.toList Rows.crcBurstsSpec.vars false W args.toList ds gs before)
    (hsz : (DataW.weightsEach Tryd.prog (Tryd.f6.params.toList ++ Rows.crcBurstsSpec.plain.varTypes Tryd.prog) (ds ++ gs)).all (· ≤ reachBytes) = true) (hL : laidMetH Tryd.prog [("daybook/crc.halves", Rows.laid_daybook_crc_halves)] W) :
    Calls Tryd.prog 6 args W fun e W' => ∃ v, e = .returned v ∧ Rows.crcBurstsSpec.post enc Tryd.prog Tryd.f6 false true false false W args v W' := by
  have hW' := hW
  obtain ⟨p, q, hA0, hV, rfl, hfz, hnd⟩ := hW
  have hA : DataW.TrodAll enc Tryd.prog W 0 (fun _ => true) true Tryd.f6.params.toList args.toList ds p := hA0
  rw [Tryd.params6] at hA hval hsz
  obtain ⟨v0, vs0, d0, ds0, p0, q0, hargs, rfl, rfl, h0, r0⟩ := trodAll_cons hA
  obtain ⟨v1, vs1, d1, ds1, p1, q1, rfl, rfl, rfl, h1, r1⟩ := trodAll_cons r0
  obtain ⟨v2, vs2, d2, ds2, p2, q2, rfl, rfl, rfl, h2, r2⟩ := trodAll_cons r1
  obtain ⟨rfl, rfl, rfl⟩ := trodAll_nil r2
  obtain rfl : args = #[v0, v1, v2] := by cases args; simp_all
  obtain ⟨rfl, rfl⟩ := trodVars_none hV
  obtain ⟨a0, len0, cap0, rfl⟩ := okWide_slice Tryd.underlying26 (hval 0 26 v0 rfl rfl)
  have k0 := h0
  have lt0 : ∀ x ∈ p0, x.block < W.heap.size := by obtain ⟨m, hm⟩ := k0; exact DataW.trod_lt m _ _ _ hm
  obtain ⟨l0, hlen0, w0, c0⟩ : ∃ l : List Nat, l.length = len0 ∧ Bytes W a0 l ∧ Came W a0 len0 cap0 1 := by
    obtain ⟨fuel, hf⟩ := h0
    rcases open_ints Tryd.underlying26 Tryd.underlying5 (by kernel_rfl) hf with ⟨hcs, hx⟩ | ⟨x, l, c, zs, hcs, _, hl, hm, hz, hx, hcell, hwz⟩
    · simp [Value.cells] at hcs
      obtain ⟨rfl, rfl, rfl⟩ := hcs
      exact ⟨[], rfl, ⟨by simp, .inl rfl⟩, ⟨Nat.le_refl _, by simp, fun _ => rfl⟩⟩
    · simp [Value.cells] at hcs
      obtain ⟨rfl, rfl, rfl⟩ := hcs
      have hz2 : zs.length = cap0 := by simpa using hz
      obtain ⟨ll, e1, e2, e3⟩ := row_nats .u8 256 (by decide) wf_u8 W x zs len0 (by omega) hcell hwz
      have hd : d0 = .slice (lits .u8 (zs.take len0)) (lits .u8 (zs.drop len0)) := (Prod.mk.inj hx).1
      have hreach : cap0 * 1 ≤ 140737488351232 := by
        have := sized_slice hsz (j := 0) (t := 26) (e := 5) rfl (by rw [hd]; rfl) Tryd.underlying26
        rw [show Tryd.prog.bytesOf 5 = 1 from by kernel_rfl] at this
        simp only [lits, List.length_map, List.length_take, List.length_drop, reachBytes] at this
        have hmin : min len0 zs.length = len0 := Nat.min_eq_left (by omega)
        rw [hmin] at this
        have hcap : len0 + (zs.length - len0) = cap0 := by omega
        rw [hcap] at this
        exact this
      exact ⟨ll, e1, ⟨e2, e3⟩, ⟨hl, hreach, fun h => by cases h⟩⟩
  subst hlen0
  obtain ⟨a1, rfl, rfl, rfl, w1⟩ := open_int Tryd.underlying3 (hval 1 3 v1 rfl rfl) h1
  obtain ⟨a2, rfl, rfl, rfl, w2⟩ := open_int Tryd.underlying22 (hval 2 22 v2 rfl rfl) h2
  clear hA0
  refine (walk l0 a0 cap0 a1 a2 W w0 c0 w1 w2 (tab_of hL)).mono fun e W' ⟨he, bel⟩ => ?_
  subst he
  exact ⟨_, rfl, _, _, _, [], _, [], hW', trodAll_mk1 (shut_bool Tryd.underlying4 _), (trodAll_cons_mk (Below.trod laidOut (by kernel_rfl) (of_decide_eq_true (by kernel_rfl)) k0 bel lt0) (trodAll_cons_mk (shut_int Tryd.underlying3 w1) (trodAll_cons_mk (shut_int Tryd.underlying22 w2) trodAll_mk0))), rfl, bel.frame _, fun h => by cases h⟩
set_option maxRecDepth 100000 in
theorem start (os : Os) : ∃ w0 : World, w0.os = os ∧ (w0.forCall (fun _ _ => 0) ⟨#[], #[.slice none 0 0, .int .i64 0, .int .u32 0], []⟩).variablesB Tryd.prog = true ∧
    ((w0.forCall (fun _ _ => 0) ⟨#[], #[.slice none 0 0, .int .i64 0, .int .u32 0], []⟩).heap.toList.drop Tryd.prog.globals.size).take ((begin Tryd.prog (fun _ _ => 0) default).world.heap.size - Tryd.prog.globals.size) = (begin Tryd.prog (fun _ _ => 0) default).world.heap.toList.drop Tryd.prog.globals.size ∧
    Input.okWideB Tryd.prog (w0.forCall (fun _ _ => 0) ⟨#[], #[.slice none 0 0, .int .i64 0, .int .u32 0], []⟩) 6 ⟨#[], #[.slice none 0 0, .int .i64 0, .int .u32 0], []⟩ = true ∧
    laidMet Tryd.prog Rows.crcBurstsRow.laid (w0.forCall (fun _ _ => 0) ⟨#[], #[.slice none 0 0, .int .i64 0, .int .u32 0], []⟩).memory ∧
    ∀ (H : Type) (enc : TypeId × Value → H), DataW.whole enc Tryd.prog (w0.forCall (fun _ _ => 0) ⟨#[], #[.slice none 0 0, .int .i64 0, .int .u32 0], []⟩).memory Tryd.f6.params.toList Rows.crcBurstsSpec.vars false (#[.slice none 0 0, .int .i64 0, .int .u32 0] : Array Value).toList 8 = some ([.nil, .lit (.int .i64 0), .lit (.int .u32 0)], [], []) :=
  ⟨{ World.holding Tryd.prog os ⟨#[], #[], []⟩ with heap := (World.holding Tryd.prog os ⟨#[], #[], []⟩).heap.modify 0 fun
      | .cells _ t frozen => .cells #[.int .u32 0, .int .u32 498536548, .int .u32 997073096, .int .u32 651767980, .int .u32 1994146192, .int .u32 1802195444, .int .u32 1303535960, .int .u32 1342533948, .int .u32 3988292384, .int .u32 4027552580, .int .u32 3604390888, .int .u32 3412177804, .int .u32 2607071920, .int .u32 2262029012, .int .u32 2685067896, .int .u32 3183342108] t frozen
      | o => o }, rfl, by kernel_rfl, by kernel_rfl, by kernel_rfl, laidMet_of_run' 8 (by kernel_rfl) (by kernel_rfl), fun _ _ => by kernel_rfl⟩
set_option maxRecDepth 100000 in
theorem lifted (os : Os) (started : os.Started) (H : Type) (enc : TypeId × Value → H) (F : Stop.Interp) :
    ReturnsInHanded {} Tryd.checked os 6 .any ((OpenSpec.ofChange Rows.crcBurstsSpec).preRow enc Tryd.prog Tryd.f6 Rows.crcBurstsRow.domain false Rows.crcBurstsRow.laid) (((OpenSpec.ofChange Rows.crcBurstsSpec).at F).post enc Tryd.prog Tryd.f6 false true false false) := by
  obtain ⟨w0, h1, h2, h3, h4, h5, h6⟩ := start os
  refine returnsInHanded_of_row (C := Tryd.checked) (s := OpenSpec.ofChange Rows.crcBurstsSpec) own started (by kernel_rfl) Tryd.func6
    (witness_row_at (enc := enc) (C := Tryd.checked) false w0 #[.slice none 0 0, .int .i64 0, .int .u32 0] h1 h2 h3 h4
      (OpenSpec.preRow_of_cond 8 (h6 H enc) (by kernel_rfl) (fun k hk => by cases hk) (by kernel_rfl) h5)) ?_
  intro W base args ds gs before hval hW _ hcond hsz hL _ _
  exact contract H enc W base args ds gs before hval hW hsz hL
theorem said : Rows.CrcBurstsSaid :=
  OpenClaim.holds_of_cond 6 Tryd.f6 rfl rfl rfl rfl rfl rfl rfl ⟨rfl, rfl, rfl, rfl, rfl⟩ rfl rfl rfl rfl rfl (by kernel_rfl) Tryd.func6 (by kernel_rfl)
    (of_decide_eq_true (by kernel_rfl)) (by unfold Func.isWrapper; first | (rw [if_pos (by decide +kernel)]; kernel_rfl) | (rw [if_neg (by decide +kernel)]; exact ⟨rfl, rfl⟩))
    (fun os started H enc _ F => by rw [OpenClaim.pre_eq_preRow]; exact lifted os started H enc F)
theorem plain (f : FuncId) (fn : Func) (hf : Tryd.pinned.checked.prog.funcNamed "daybook/daybooklaw03.CrcBursts" = some f) (hfn : Tryd.pinned.checked.prog.funcs[f]? = some fn) :
    false = Tryd.pinned.checked.prog.looks [] ∧ ∀ (j : Nat) t, fn.params[j]? = some t → Tryd.pinned.checked.prog.wantsStandIn t = false := by
  obtain rfl : f = 6 := Option.some.inj ((show Tryd.prog.funcNamed "daybook/daybooklaw03.CrcBursts" = some 6 by kernel_rfl).symm.trans hf) |>.symm
  obtain rfl : fn = Tryd.f6 := (Option.some.inj (Tryd.func6.symm.trans hfn)).symm
  refine ⟨by kernel_rfl, fun j t ht => ?_⟩
  rw [Tryd.params6] at ht
  have hm := Array.mem_of_getElem? ht
  have hall : ∀ t ∈ (#[26, 3, 22] : Array TypeId), Tryd.prog.wantsStandIn t = false := by
    intro t ht
    simp only [List.mem_toArray, List.mem_cons, List.not_mem_nil, or_false] at ht
    rcases ht with rfl | rfl | rfl <;> kernel_rfl
  exact hall t hm
theorem card : Rows.CrcBurstsCardSaid :=
  Claim7.holds_tied_plain_at .later [] _ _ _ _ said (fun _ h => by cases h) (by kernel_rfl) (fun _ h => by cases h) crcBursts_row_tie rfl ⟨rfl, rfl⟩ (by kernel_rfl) rfl plain (by kernel_rfl)
end Go.Proofs.YtenekcnccmghhadDoor.crcBursts
