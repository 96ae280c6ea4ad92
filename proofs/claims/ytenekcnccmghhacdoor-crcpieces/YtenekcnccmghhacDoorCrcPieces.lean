/- For every text and every cut: a sum goes on from the cut. No condition. -/
import Derived.Test.YtenekcnccmghhacDoorCrcTie
import Derived.Test.YtenekcnccmghhacDoorHead03
import Derived.SizedLaws
import Derived.ChangeOld
import Derived.Deep.QuietTactic
import Derived.BigQuiet
import Derived.Deep.RegionWith
namespace Go.Proofs.YtenekcnccmghhacDoor.crcPieces
open Go.ChangeShapes Go.WideShapes Go.ChangeAt Go.RowKit
set_option linter.unusedVariables false
theorem sum_q (l : List Nat) (n : Nat) (a : Option Addr) (cap : Nat) (w : World) (hn : l.length = n) (hb : Bytes w a l) (hl : l.length ≤ maxLen) (ht : Tab w) :
    Calls Tryd.prog 8 #[.slice a n cap] w fun e w' => e = .returned (.int .u32 (Crcm.sum l : Nat)) ∧ w' = w :=
  (sum_any l n a cap w hn hb hl ht).mono fun _ _ h => ⟨h.1, h.2.symm⟩
theorem update_q (s : Nat) (l : List Nat) (n : Nat) (a : Option Addr) (cap : Nat) (w : World) (hn : l.length = n) (hs : s < 4294967296) (hb : Bytes w a l) (hl : l.length ≤ maxLen) (ht : Tab w) :
    Calls Tryd.prog 10 #[.int .u32 s, .slice a n cap] w fun e w' => e = .returned (.int .u32 (Crcm.update s l : Nat)) ∧ w' = w := by
  subst hn
  exact (update_any s l a cap w hs hb hl ht).mono fun _ _ h => ⟨h.1, h.2.symm⟩
theorem goes_on (l : List Nat) (k : Nat) : Crcm.update (Crcm.sum (l.take k)) (l.drop k) = Crcm.sum l := by
  unfold Crcm.sum
  rw [← Crcm.update_append, List.take_append_drop]
theorem update_none (s : Nat) : Crcm.update s [] = s := by
  unfold Crcm.update Crcm.upd
  rw [List.foldl_nil, Nat.xor_assoc, Nat.xor_self, Nat.xor_zero]
set_option maxRecDepth 20000 in
set_option maxHeartbeats 1000000 in
theorem walk (l : List Nat) (a : Option Addr) (cap : Nat) (a1 : Int) (w : World) (hb : Bytes w a l) (hc : Came w a l.length cap 1) (w1 : (Lit.int .i64 a1).wf = true) (ht : Tab w) :
    Calls Tryd.prog 4 #[.slice a l.length cap, .int .i64 a1] w fun e w' => e = .returned (.bool true) ∧ Below w.heap.size w w' := by
  obtain ⟨hf, hr, hn⟩ := hc
  have hl : l.length ≤ maxLen := by unfold maxLen; omega
  have HB : Hid (Bytes w a l) := hb
  have HT : Hid (Tab w) := ht
  have hslt : Crcm.sum l < 4294967296 := Crcm.sum_lt l hb.mem
  have HM : Hid (∀ x ∈ l, x < 256) := hb.mem
  clear w1 ht
  by_cases hcut : 0 ≤ a1 ∧ a1 ≤ l.length
  · obtain ⟨k, rfl⟩ := Int.eq_ofNat_of_zero_le hcut.1
    have hk : k ≤ l.length := by omega
    have h1 : ¬ (k : Int) < 0 := by omega
    have h2 : ¬ (l.length : Int) < (k : Int) := by omega
    clear hcut
    have HS : Hid (Crcm.update (Crcm.sum (l.take k)) (l.drop k) = Crcm.sum l) := goes_on l k
    have hs1 : Crcm.sum (l.take k) < 4294967296 := Crcm.sum_lt _ (fun x hx => HM.out x (List.mem_of_mem_take hx))
    have HT1 : Hid ((l.take k).length = k) := by show _ = _; rw [List.length_take]; omega
    have HM1 : Hid ((l.take k).length ≤ maxLen) := by show _ ≤ _; rw [List.length_take]; omega
    have HT2 : Hid ((l.drop k).length = l.length - k) := List.length_drop
    have HM2 : Hid ((l.drop k).length ≤ maxLen) := by show _ ≤ _; rw [List.length_drop]; omega
    by_cases hne : l = []
    · subst hne
      have hk0 : k = 0 := by simpa using hk
      subst hk0
      clear hb HS HT1 HM1 HT2 HM2 hs1 hk
      have ha : (a = none ∧ cap = 0) ∨ ∃ x, a = some x := by
        cases a with
        | none => exact .inl ⟨rfl, hn rfl⟩
        | some x => exact .inr ⟨x, rfl⟩
      clear hn hf h2
      rcases ha with ⟨rfl, rfl⟩ | ⟨x, rfl⟩
      all_goals
        go_enter Tryd.func4, Tryd.ntmps4
        go_wp2_with (go_at_call 6; refine (head03_any w HT.out).mono ?_; rintro e w1 ⟨rfl, hb1⟩)
        have HTB : Hid (Tab w1) := HT.out.keep hb1
        go_quiet ((first
          | (go_at_call 8; exact Calls.quiet_of_same (sum_q [] _ _ _ _ rfl (Bytes.none _ _) hl (HTB.out.drewN _)))
          | (go_at_call 10; exact Calls.quiet_of_same (update_q _ [] _ _ _ _ (by simp) hslt (Bytes.none _ _) (by simp) (HTB.out.drewN _)))))
        all_goals go_wp2
        all_goals go_ret
        all_goals exact ⟨ret_bool (by rw [update_none]; simp), below_drewN hb1 _⟩
    · obtain ⟨b, off, rfl, hlt, hcl⟩ := hb.nonempty hne
      clear hb hn hcl hne
      by_cases hkl : k < l.length
      · have hk3 : (k : Int) ≤ (l.length : Int) := by omega
        have hk4 : (k : Int) ≤ (cap : Int) := by omega
        go_enter Tryd.func4, Tryd.ntmps4
        go_wp2_with (go_at_call 6; refine (head03_any w HT.out).mono ?_; rintro e w1 ⟨rfl, hb1⟩)
        have HB1 : Hid (Bytes w1 (some ⟨b, off, none⟩) l) := HB.out.keep hb1
        have HTB : Hid (Tab w1) := HT.out.keep hb1
        go_quiet ((first
          | (go_at_call_of 8 (l.length); exact Calls.quiet_of_same (sum_q l _ _ _ _ rfl (HB1.out.drewN _) hl (HTB.out.drewN _)))
          | (go_at_call 8; exact Calls.quiet_of_same (sum_q (l.take k) _ _ _ _ HT1.out ((HB1.out.take k).drewN _) HM1.out (HTB.out.drewN _)))
          | (go_at_call 10; exact Calls.quiet_of_same (update_q _ (l.drop k) _ _ _ _ HT2.out hs1 ((HB1.out.drop k).drewN _) HM2.out (HTB.out.drewN _)))))
        go_wp2
        go_ret
        exact ⟨ret_bool (by rw [HS.out]; simp), below_drewN hb1 _⟩
      · have hkl2 : k = l.length := by omega
        subst hkl2
        clear hkl hk HS HT1 HM1 HT2 HM2 hs1 h2
        have hcap : (l.length : Int) ≤ (cap : Int) := by omega
        go_enter Tryd.func4, Tryd.ntmps4
        go_wp2_with (go_at_call 6; refine (head03_any w HT.out).mono ?_; rintro e w1 ⟨rfl, hb1⟩)
        have HB1 : Hid (Bytes w1 (some ⟨b, off, none⟩) l) := HB.out.keep hb1
        have HTB : Hid (Tab w1) := HT.out.keep hb1
        go_quiet ((first
          | (go_at_call 8; exact Calls.quiet_of_same (sum_q l _ _ _ _ rfl (HB1.out.drewN _) hl (HTB.out.drewN _)))
          | (go_at_call 10; exact Calls.quiet_of_same (update_q _ [] _ _ _ _ (by simp) hslt (Bytes.none _ _) (by simp) (HTB.out.drewN _)))))
        all_goals go_wp2
        all_goals go_ret
        all_goals exact ⟨ret_bool (by rw [update_none]; simp), below_drewN hb1 _⟩
  · have hor : a1 < 0 ∨ (0 ≤ a1 ∧ (l.length : Int) < a1) := by omega
    clear hcut hb hn
    rcases hor with h1 | ⟨h1, h2⟩
    all_goals
      go_enter Tryd.func4, Tryd.ntmps4
      go_wp2_with (first
        | (go_at_call 6; refine (head03_any w HT.out).mono ?_; rintro e w1 ⟨rfl, hb1⟩; have HB1 : Hid (Bytes w1 a l) := HB.out.keep hb1; have HTB : Hid (Tab w1) := HT.out.keep hb1)
        | (go_at_call 8; refine (sum_any l _ _ _ _ rfl HB1.out hl HTB.out).mono ?_; rintro e w2 ⟨rfl, rfl⟩)
        | (go_at_call 10; refine (update_any _ [] _ _ _ hslt (Bytes.none _ _) (by simp) HTB.out).mono ?_; rw [update_none]; rintro e w2 ⟨rfl, rfl⟩))
      go_ret
      exact ⟨ret_bool (by simp), hb1⟩
theorem own : ownKnob Tryd.prog.godebug = none := by kernel_rfl
theorem laidOut : laidOutB Tryd.prog = true := by kernel_rfl
set_option maxRecDepth 100000 in
theorem contract (H : Type) (enc : TypeId × Value → H) (W : World) (base : Nat) (args : Array Value) (ds gs : List (DataW H)) (before : List MemPlace)
    (hval : ∀ (j : Nat) t v, Tryd.f4.params[j]? = some t → args[j]? = some v → Value.okWide Tryd.prog W .any base t v)
    (hW : DataW.Whole enc Tryd.prog Tryd.f4.params.toList Rows.crcPiecesSpec.vars false W args.toList ds gs before)
    (hsz : (DataW.weightsEach Tryd.prog (Tryd.f4.params.toList ++ Rows.crcPiecesSpec.plain.varTypes Tryd.prog) (ds ++ gs)).all (· ≤ reachBytes) = true) (hL : laidMetH Tryd.prog [("daybook/crc.halves", Rows.laid_daybook_crc_halves)] W) :
    Calls Tryd.prog 4 args W fun e W' => ∃ v, e = .returned v ∧ Rows.crcPiecesSpec.post enc Tryd.prog Tryd.f4 false true false false W args v W' := by
  have hW' := hW
  obtain ⟨p, q, hA0, hV, rfl, hfz, hnd⟩ := hW
  have hA : DataW.TrodAll enc Tryd.prog W 0 (fun _ => true) true Tryd.f4.params.toList args.toList ds p := hA0
  rw [Tryd.params4] at hA hval hsz
  obtain ⟨v0, vs0, d0, ds0, p0, q0, hargs, rfl, rfl, h0, r0⟩ := trodAll_cons hA
  obtain ⟨v1, vs1, d1, ds1, p1, q1, rfl, rfl, rfl, h1, r1⟩ := trodAll_cons r0
  obtain ⟨rfl, rfl, rfl⟩ := trodAll_nil r1
  obtain rfl : args = #[v0, v1] := by cases args; simp_all
  obtain ⟨rfl, rfl⟩ := trodVars_none hV
  obtain ⟨a0, len0, cap0, rfl⟩ := okWide_slice Tryd.underlying22 (hval 0 22 v0 rfl rfl)
  have k0 := h0
  have lt0 : ∀ x ∈ p0, x.block < W.heap.size := by obtain ⟨m, hm⟩ := k0; exact DataW.trod_lt m _ _ _ hm
  obtain ⟨l0, hlen0, w0, c0⟩ : ∃ l : List Nat, l.length = len0 ∧ Bytes W a0 l ∧ Came W a0 len0 cap0 1 := by
    obtain ⟨fuel, hf⟩ := h0
    rcases open_ints Tryd.underlying22 Tryd.underlying5 (by kernel_rfl) hf with ⟨hcs, hx⟩ | ⟨x, l, c, zs, hcs, _, hl, hm, hz, hx, hcell, hwz⟩
    · simp [Value.cells] at hcs
      obtain ⟨rfl, rfl, rfl⟩ := hcs
      exact ⟨[], rfl, ⟨by simp, .inl rfl⟩, ⟨Nat.le_refl _, by simp, fun _ => rfl⟩⟩
    · simp [Value.cells] at hcs
      obtain ⟨rfl, rfl, rfl⟩ := hcs
      have hz2 : zs.length = cap0 := by simpa using hz
      obtain ⟨ll, e1, e2, e3⟩ := row_nats .u8 256 (by decide) wf_u8 W x zs len0 (by omega) hcell hwz
      have hd : d0 = .slice (lits .u8 (zs.take len0)) (lits .u8 (zs.drop len0)) := (Prod.mk.inj hx).1
      have hreach : cap0 * 1 ≤ 140737488351232 := by
        have := sized_slice hsz (j := 0) (t := 22) (e := 5) rfl (by rw [hd]; rfl) Tryd.underlying22
        rw [show Tryd.prog.bytesOf 5 = 1 from by kernel_rfl] at this
        simp only [lits, List.length_map, List.length_take, List.length_drop, reachBytes] at this
        have hmin : min len0 zs.length = len0 := Nat.min_eq_left (by omega)
        rw [hmin] at this
        have hcap : len0 + (zs.length - len0) = cap0 := by omega
        rw [hcap] at this
        exact this
      exact ⟨ll, e1, ⟨e2, e3⟩, ⟨hl, hreach, fun h => by cases h⟩⟩
  subst hlen0
  obtain ⟨a1, rfl, rfl, rfl, w1⟩ := open_int Tryd.underlying3 (hval 1 3 v1 rfl rfl) h1
  clear hA0
  refine (walk l0 a0 cap0 a1 W w0 c0 w1 (tab_of hL)).mono fun e W' ⟨he, bel⟩ => ?_
  subst he
  exact ⟨_, rfl, _, _, _, [], _, [], hW', trodAll_mk1 (shut_bool Tryd.underlying4 _), (trodAll_cons_mk (Below.trod laidOut (by kernel_rfl) (of_decide_eq_true (by kernel_rfl)) k0 bel lt0) (trodAll_cons_mk (shut_int Tryd.underlying3 w1) trodAll_mk0)), rfl, bel.frame _, fun h => by cases h⟩
set_option maxRecDepth 100000 in
theorem start (os : Os) : ∃ w0 : World, w0.os = os ∧ (w0.forCall (fun _ _ => 0) ⟨#[], #[.slice none 0 0, .int .i64 0], []⟩).variablesB Tryd.prog = true ∧
    ((w0.forCall (fun _ _ => 0) ⟨#[], #[.slice none 0 0, .int .i64 0], []⟩).heap.toList.drop Tryd.prog.globals.size).take ((begin Tryd.prog (fun _ _ => 0) default).world.heap.size - Tryd.prog.globals.size) = (begin Tryd.prog (fun _ _ => 0) default).world.heap.toList.drop Tryd.prog.globals.size ∧
    Input.okWideB Tryd.prog (w0.forCall (fun _ _ => 0) ⟨#[], #[.slice none 0 0, .int .i64 0], []⟩) 4 ⟨#[], #[.slice none 0 0, .int .i64 0], []⟩ = true ∧
    laidMet Tryd.prog Rows.crcPiecesRow.laid (w0.forCall (fun _ _ => 0) ⟨#[], #[.slice none 0 0, .int .i64 0], []⟩).memory ∧
    ∀ (H : Type) (enc : TypeId × Value → H), DataW.whole enc Tryd.prog (w0.forCall (fun _ _ => 0) ⟨#[], #[.slice none 0 0, .int .i64 0], []⟩).memory Tryd.f4.params.toList Rows.crcPiecesSpec.vars false (#[.slice none 0 0, .int .i64 0] : Array Value).toList 8 = some ([.nil, .lit (.int .i64 0)], [], []) :=
  ⟨{ World.holding Tryd.prog os ⟨#[], #[], []⟩ with heap := (World.holding Tryd.prog os ⟨#[], #[], []⟩).heap.modify 0 fun
      | .cells _ t frozen => .cells #[.int .u32 0, .int .u32 498536548, .int .u32 997073096, .int .u32 651767980, .int .u32 1994146192, .int .u32 1802195444, .int .u32 1303535960, .int .u32 1342533948, .int .u32 3988292384, .int .u32 4027552580, .int .u32 3604390888, .int .u32 3412177804, .int .u32 2607071920, .int .u32 2262029012, .int .u32 2685067896, .int .u32 3183342108] t frozen
      | o => o }, rfl, by kernel_rfl, by kernel_rfl, by kernel_rfl, laidMet_of_run' 8 (by kernel_rfl) (by kernel_rfl), fun _ _ => by kernel_rfl⟩
set_option maxRecDepth 100000 in
theorem lifted (os : Os) (started : os.Started) (H : Type) (enc : TypeId × Value → H) (F : Stop.Interp) :
    ReturnsInHanded {} Tryd.checked os 4 .any ((OpenSpec.ofChange Rows.crcPiecesSpec).preRow enc Tryd.prog Tryd.f4 Rows.crcPiecesRow.domain false Rows.crcPiecesRow.laid) (((OpenSpec.ofChange Rows.crcPiecesSpec).at F).post enc Tryd.prog Tryd.f4 false true false false) := by
  obtain ⟨w0, h1, h2, h3, h4, h5, h6⟩ := start os
  refine returnsInHanded_of_row (C := Tryd.checked) (s := OpenSpec.ofChange Rows.crcPiecesSpec) own started (by kernel_rfl) Tryd.func4
    (witness_row_at (enc := enc) (C := Tryd.checked) false w0 #[.slice none 0 0, .int .i64 0] h1 h2 h3 h4
      (OpenSpec.preRow_of_cond 8 (h6 H enc) (by kernel_rfl) (fun k hk => by cases hk) (by kernel_rfl) h5)) ?_
  intro W base args ds gs before hval hW _ hcond hsz hL _ _
  exact contract H enc W base args ds gs before hval hW hsz hL
theorem said : Rows.CrcPiecesSaid :=
  OpenClaim.holds_of_cond 4 Tryd.f4 rfl rfl rfl rfl rfl rfl rfl ⟨rfl, rfl, rfl, rfl, rfl⟩ rfl rfl rfl rfl rfl (by kernel_rfl) Tryd.func4 (by kernel_rfl)
    (of_decide_eq_true (by kernel_rfl)) (by unfold Func.isWrapper; first | (rw [if_pos (by decide +kernel)]; kernel_rfl) | (rw [if_neg (by decide +kernel)]; exact ⟨rfl, rfl⟩))
    (fun os started H enc _ F => by rw [OpenClaim.pre_eq_preRow]; exact lifted os started H enc F)
theorem plain (f : FuncId) (fn : Func) (hf : Tryd.pinned.checked.prog.funcNamed "daybook/daybooklaw03.CrcPieces" = some f) (hfn : Tryd.pinned.checked.prog.funcs[f]? = some fn) :
    false = Tryd.pinned.checked.prog.looks [] ∧ ∀ (j : Nat) t, fn.params[j]? = some t → Tryd.pinned.checked.prog.wantsStandIn t = false := by
  obtain rfl : f = 4 := Option.some.inj ((show Tryd.prog.funcNamed "daybook/daybooklaw03.CrcPieces" = some 4 by kernel_rfl).symm.trans hf) |>.symm
  obtain rfl : fn = Tryd.f4 := (Option.some.inj (Tryd.func4.symm.trans hfn)).symm
  refine ⟨by kernel_rfl, fun j t ht => ?_⟩
  rw [Tryd.params4] at ht
  have hm := Array.mem_of_getElem? ht
  have hall : ∀ t ∈ (#[22, 3] : Array TypeId), Tryd.prog.wantsStandIn t = false := by
    intro t ht
    simp only [List.mem_toArray, List.mem_cons, List.not_mem_nil, or_false] at ht
    rcases ht with rfl | rfl <;> kernel_rfl
  exact hall t hm
theorem card : Rows.CrcPiecesCardSaid :=
  Claim7.holds_tied_plain_at .later [] _ _ _ _ said (fun _ h => by cases h) (by kernel_rfl) (fun _ h => by cases h) crcPieces_row_tie rfl ⟨rfl, rfl⟩ (by kernel_rfl) rfl plain (by kernel_rfl)
end Go.Proofs.YtenekcnccmghhacDoor.crcPieces
