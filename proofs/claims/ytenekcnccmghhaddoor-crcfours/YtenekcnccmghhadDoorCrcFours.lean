/- For every text and every sum: Four and Closed answer as the reference, a text with its sum behind it is closed, and the sum of such a text is one number. No condition. -/
import Derived.Test.YtenekcnccmghhadDoorCrcTie
import Derived.Test.YtenekcnccmghhadDoorHead03
import Derived.Test.YtenekcnccmghhadDoorClosed
import Derived.Test.YtenekcnccmghhadDoorJoin
import Derived.Test.YtenekcnccmghhadDoorRcrc
import Derived.Test.YtenekcnccmghhadDoorSame
import Derived.SizedLaws
import Derived.ChangeOld
namespace Go.Proofs.YtenekcnccmghhadDoor.crcFours
open Go.ChangeShapes Go.WideShapes Go.ChangeAt Go.RowKit
set_option linter.unusedVariables false
theorem closed_whole (l : List Nat) (hl : ∀ x ∈ l, x < 256) : closedB (l ++ Crcm.four (Crcm.sum l)) = true := by
  unfold closedB
  have hn : (l ++ Crcm.four (Crcm.sum l)).length = l.length + 4 := by rw [List.length_append]; rfl
  rw [hn, show l.length + 4 - 4 = l.length from by omega, List.drop_left, List.take_left]
  simp
theorem residue : Crcm.shN 32 Crcm.ones ^^^ Crcm.ones = 558161692 := by decide +kernel
theorem sum_whole (l : List Nat) (hl : ∀ x ∈ l, x < 256) : Crcm.sum (l ++ Crcm.four (Crcm.sum l)) = 558161692 := by
  have h := (Crcm.closed_iff l (Crcm.four (Crcm.sum l)) hl (Crcm.four_lt _ (Crcm.sum_lt l hl)) rfl).1 rfl
  rw [← residue, ← h]
  show Crcm.upd (0 ^^^ Crcm.ones) _ ^^^ Crcm.ones = _
  rw [Nat.zero_xor]
theorem closed3 : closedB [0, 0, 0] = false := by decide
theorem closed4 : closedB [0, 0, 0, 0] = true := by decide
theorem below_next {w a b : World} (h : Below w.heap.size w a) (k : Below a.heap.size a b) : Below w.heap.size w b := h.trans (k.mono h.size)
set_option maxRecDepth 20000 in
set_option maxHeartbeats 2000000 in
theorem walk (l : List Nat) (a : Option Addr) (cap : Nat) (a1 : Int) (w : World) (hb : Bytes w a l) (hc : Came w a l.length cap 1) (w1 : (Lit.int .u32 a1).wf = true) (ht : Tab w) :
    Calls Tryd.prog 5 #[.slice a l.length cap, .int .u32 a1] w fun e w' => e = .returned (.bool true) ∧ Below w.heap.size w w' := by
  obtain ⟨hf, hr, hn⟩ := hc
  have hl : l.length ≤ maxLen := by unfold maxLen; omega
  have b1 : 0 ≤ a1 ∧ a1 ≤ 4294967295 := by simpa [Lit.wf, IntKind.min, IntKind.max, IntKind.signed, IntKind.bits] using w1
  obtain ⟨s, rfl⟩ := Int.eq_ofNat_of_zero_le b1.1
  have HS : Hid (s < 4294967296) := by show _ < _; omega
  have HB : Hid (Bytes w a l) := hb
  have HT : Hid (Tab w) := ht
  have HSL : Hid (Crcm.sum l < 4294967296) := Crcm.sum_lt l hb.mem
  have HMEM : Hid (∀ x ∈ l, x < 256) := hb.mem
  obtain ⟨W, hW⟩ : ∃ W, W = l ++ Crcm.four (Crcm.sum l) := ⟨_, rfl⟩
  have hWn : W.length = l.length + 4 := by rw [hW, List.length_append]; rfl
  have HWC : Hid (closedB W = true) := by show _ = _; rw [hW]; exact closed_whole l hb.mem
  have HWS : Hid (Crcm.sum W = 558161692) := by show _ = _; rw [hW]; exact sum_whole l hb.mem
  have HWE : Hid (W = l ++ Crcm.four (Crcm.sum l)) := hW
  have hWl : W.length ≤ maxLen := by unfold maxLen; omega
  have HNE : Hid (W ≠ []) := by intro h; rw [h] at hWn; simp at hWn
  have hm0 : ([] : List Nat).length ≤ maxLen := by simp
  clear hb ht hW b1 w1 hWn
  by_cases h4 : l.length < 4
  · have HC : Hid (closedB l = false) := by
      show _ = _
      unfold closedB
      rw [decide_eq_false_iff_not]
      omega
    clear hn
    go_enter Tryd.func5, Tryd.ntmps5
    go_wp2_with (first
      | (go_at_call 8; refine (head03_any w HT.out).mono ?_; rintro e w1 ⟨rfl, hb1⟩)
      | (go_at_call_of 11 (Value.slice (some (⟨w1.heap.size, 0, none⟩ : Addr)) 3 3); refine (closed_any [0, 0, 0] _ _ _ _ rfl (bytes_lit w1 [0, 0, 0] (getD_lt (by decide))) (by simp [maxLen]) (by simp) ((HT.out.keep hb1).keep ((Below.refl _ _).alloc (Nat.le_refl _) _))).mono ?_; rw [closed3]; rintro e w2 ⟨rfl, hb2'⟩; have hb2 := ((Below.refl w1.heap.size w1).alloc (Nat.le_refl _) _).trans (hb2'.mono (by simp)); clear hb2')
      | (go_at_call_of 11 (Value.slice (some (⟨w2.heap.size, 0, none⟩ : Addr)) 4 4); refine (closed_any [0, 0, 0, 0] _ _ _ _ rfl (bytes_lit w2 [0, 0, 0, 0] (getD_lt (by decide))) (by simp [maxLen]) (by simp) (((HT.out.keep hb1).keep hb2).keep ((Below.refl _ _).alloc (Nat.le_refl _) _))).mono ?_; rw [closed4]; rintro e w3 ⟨rfl, hb3'⟩; have hb3 := ((Below.refl w2.heap.size w2).alloc (Nat.le_refl _) _).trans (hb3'.mono (by simp)); clear hb3'; have hbw3 := below_next (below_next hb1 hb2) hb3)
      | (go_at_call_of 13 (s); refine (four_any s _ HS.out).mono ?_; rintro e w4 ⟨g4, rfl, hby4, hb4⟩)
      | (go_at_call_of 14 (s); refine (rfour_any s _ HS.out).mono ?_; rintro e w5 ⟨g5, rfl, hby5, hb5⟩)
      | (go_at_call_of 12 (g5); refine (same_at (Crcm.four s) (Crcm.four s) _ _ _ _ _ _ _ rfl rfl (hby4.keep hb5) hby5 (by show 4 ≤ maxLen; simp [maxLen]) (by show 4 ≤ maxLen; simp [maxLen])).mono ?_; rw [decide_eq_true (rfl : Crcm.four s = Crcm.four s)]; rintro e w6 ⟨rfl, nq, rfl⟩; have hb6 := below_drewN (below_next (below_next hbw3 hb4) hb5) nq)
      | (go_at_call_of 10 (Value.slice a l.length cap); refine (sum_any l _ _ _ _ rfl (HB.out.keep hb6) hl (HT.out.keep hb6)).mono ?_; rintro e w7 ⟨rfl, rfl⟩)
      | (go_at_call_of 13 (Crcm.sum l); refine (four_any _ _ HSL.out).mono ?_; rintro e w8 ⟨g8, rfl, hby8, hb8⟩)
      | (go_at_call 15; refine (join_any l (Crcm.four (Crcm.sum l)) _ _ _ _ _ _ _ rfl rfl ((HB.out.keep hb6).keep hb8) hby8 (by show _ + 4 ≤ _; omega)).mono ?_; rw [← HWE.out]; rintro e w9 ⟨v9, rfl, ho9, hb9⟩; obtain ⟨g9, cap9, rfl, hcap9, hby9⟩ := ho9.row HNE.out; clear ho9; have hbw9 := below_next (below_next hb6 hb8) hb9)
      | (go_at_call_of 11 (cap9); refine (closed_any W _ _ _ _ rfl hby9 hWl hcap9 (HT.out.keep hbw9)).mono ?_; rw [HWC.out]; rintro e w10 ⟨rfl, hb10⟩; have hbw10 := below_next hbw9 hb10)
      | (go_at_call_of 10 (cap9); refine (sum_any W _ _ _ _ rfl (hby9.keep hb10) hWl (HT.out.keep hbw10)).mono ?_; rw [HWS.out]; rintro e w11 ⟨rfl, rfl⟩)
      | (go_at_call_of 11 (Value.slice a l.length cap); refine (closed_any l _ _ _ _ rfl (HB.out.keep hbw10) hl hf (HT.out.keep hbw10)).mono ?_; rw [HC.out]; rintro e w12 ⟨rfl, hb12⟩))
    go_ret
    exact ⟨rfl, below_next hbw10 hb12⟩
  · obtain ⟨n, hn4⟩ : ∃ n, l.length = n + 4 := ⟨l.length - 4, by omega⟩
    have hne : l ≠ [] := by intro h; subst h; simp at hn4
    obtain ⟨b, off, rfl, hlt, hcl⟩ := HB.out.nonempty hne
    have hat : (l.length : Int) - 4 = (n : Int) := by omega
    have hq : closedB l = (decide (Crcm.four (Crcm.sum (l.take n)) = l.drop n)) := by
      unfold closedB
      rw [decide_eq_decide, show l.length - 4 = n from by omega]
      exact ⟨fun h => h.2.symm, fun h => ⟨by omega, h.symm⟩⟩
    have HQ : Hid (_ = _) := hq
    have HT1 : Hid ((l.take n).length = n) := by show _ = _; rw [List.length_take]; omega
    have HM1 : Hid ((l.take n).length ≤ maxLen) := by show _ ≤ _; rw [List.length_take]; omega
    have HT2 : Hid ((l.drop n).length = l.length - n) := List.length_drop
    have HM2 : Hid ((l.drop n).length ≤ maxLen) := by show _ ≤ _; rw [List.length_drop]; omega
    have HS1 : Hid (Crcm.sum (l.take n) < 4294967296) := Crcm.sum_lt _ (fun x hx => HMEM.out x (List.mem_of_mem_take hx))
    have hge : ¬ (l.length : Int) < 4 := by omega
    have hn1 : n < l.length := by omega
    have hn2 : (n : Int) ≤ (l.length : Int) := by omega
    have hn3 : (n : Int) ≤ (cap : Int) := by omega
    have hn5 : n < cap := by omega
    clear hn hq hne hcl hn4 h4
    go_enter Tryd.func5, Tryd.ntmps5
    go_wp2_with (first
      | (go_at_call 8; refine (head03_any w HT.out).mono ?_; rintro e w1 ⟨rfl, hb1⟩)
      | (go_at_call_of 11 (Value.slice (some (⟨w1.heap.size, 0, none⟩ : Addr)) 3 3); refine (closed_any [0, 0, 0] _ _ _ _ rfl (bytes_lit w1 [0, 0, 0] (getD_lt (by decide))) (by simp [maxLen]) (by simp) ((HT.out.keep hb1).keep ((Below.refl _ _).alloc (Nat.le_refl _) _))).mono ?_; rw [closed3]; rintro e w2 ⟨rfl, hb2'⟩; have hb2 := ((Below.refl w1.heap.size w1).alloc (Nat.le_refl _) _).trans (hb2'.mono (by simp)); clear hb2')
      | (go_at_call_of 11 (Value.slice (some (⟨w2.heap.size, 0, none⟩ : Addr)) 4 4); refine (closed_any [0, 0, 0, 0] _ _ _ _ rfl (bytes_lit w2 [0, 0, 0, 0] (getD_lt (by decide))) (by simp [maxLen]) (by simp) (((HT.out.keep hb1).keep hb2).keep ((Below.refl _ _).alloc (Nat.le_refl _) _))).mono ?_; rw [closed4]; rintro e w3 ⟨rfl, hb3'⟩; have hb3 := ((Below.refl w2.heap.size w2).alloc (Nat.le_refl _) _).trans (hb3'.mono (by simp)); clear hb3'; have hbw3 := below_next (below_next hb1 hb2) hb3)
      | (go_at_call_of 13 (s); refine (four_any s _ HS.out).mono ?_; rintro e w4 ⟨g4, rfl, hby4, hb4⟩)
      | (go_at_call_of 14 (s); refine (rfour_any s _ HS.out).mono ?_; rintro e w5 ⟨g5, rfl, hby5, hb5⟩)
      | (go_at_call_of 12 (g5); refine (same_at (Crcm.four s) (Crcm.four s) _ _ _ _ _ _ _ rfl rfl (hby4.keep hb5) hby5 (by show 4 ≤ maxLen; simp [maxLen]) (by show 4 ≤ maxLen; simp [maxLen])).mono ?_; rw [decide_eq_true (rfl : Crcm.four s = Crcm.four s)]; rintro e w6 ⟨rfl, nq, rfl⟩; have hb6 := below_drewN (below_next (below_next hbw3 hb4) hb5) nq)
      | (go_at_call_of 10 (cap); refine (sum_any l _ _ _ _ rfl (HB.out.keep hb6) hl (HT.out.keep hb6)).mono ?_; rintro e w7 ⟨rfl, rfl⟩)
      | (go_at_call_of 13 (Crcm.sum l); refine (four_any _ _ HSL.out).mono ?_; rintro e w8 ⟨g8, rfl, hby8, hb8⟩)
      | (go_at_call 15; refine (join_any l (Crcm.four (Crcm.sum l)) _ _ _ _ _ _ _ rfl rfl ((HB.out.keep hb6).keep hb8) hby8 (by show _ + 4 ≤ _; omega)).mono ?_; rw [← HWE.out]; rintro e w9 ⟨v9, rfl, ho9, hb9⟩; obtain ⟨g9, cap9, rfl, hcap9, hby9⟩ := ho9.row HNE.out; clear ho9; have hbw9 := below_next (below_next hb6 hb8) hb9)
      | (go_at_call_of 11 (cap9); refine (closed_any W _ _ _ _ rfl hby9 hWl hcap9 (HT.out.keep hbw9)).mono ?_; rw [HWC.out]; rintro e w10 ⟨rfl, hb10⟩; have hbw10 := below_next hbw9 hb10)
      | (go_at_call_of 10 (cap9); refine (sum_any W _ _ _ _ rfl (hby9.keep hb10) hWl (HT.out.keep hbw10)).mono ?_; rw [HWS.out]; rintro e w11 ⟨rfl, rfl⟩))
    have HB10 : Hid (Bytes w10 (some ⟨b, off, none⟩) l) := HB.out.keep hbw10
    go_region_with (first
      | (go_at_call 11; refine (closed_any l _ _ _ _ rfl (HB10.out.drewN 1) hl hf ((HT.out.keep hbw10).drewN 1)).mono ?_; rw [HQ.out]; rintro e w12 ⟨rfl, hb12'⟩; have hb12 := (below_drewN (Below.refl w10.heap.size w10) 1).trans hb12'; clear hb12')
      | (go_at_call 16; refine (rsum_any (l.take n) _ _ _ _ HT1.out ((HB10.out.keep hb12).take n) HM1.out).mono ?_; rintro e w13 ⟨rfl, rfl⟩)
      | (go_at_call 14; refine (rfour_any _ _ HS1.out).mono ?_; rintro e w14 ⟨g14, rfl, hby14, hb14⟩)
      | (go_at_call 12; refine (same_at (Crcm.four (Crcm.sum (l.take n))) (l.drop n) _ _ _ _ _ _ _ rfl HT2.out hby14 (((HB10.out.keep hb12).keep hb14).drop n) (by show 4 ≤ maxLen; simp [maxLen]) HM2.out).mono ?_; rintro e w15 ⟨rfl, nq2, rfl⟩))
    all_goals go_wp2
    all_goals go_ret
    all_goals exact ⟨ret_bool (by simp), below_drewN (below_next (below_next hbw10 hb12) hb14) nq2⟩
theorem own : ownKnob Tryd.prog.godebug = none := by kernel_rfl
theorem laidOut : laidOutB Tryd.prog = true := by kernel_rfl
set_option maxRecDepth 100000 in
theorem contract (H : Type) (enc : TypeId × Value → H) (W : World) (base : Nat) (args : Array Value) (ds gs : List (DataW H)) (before : List MemPlace)
    (hval : ∀ (j : Nat) t v, Tryd.f5.params[j]? = some t → args[j]? = some v → Value.okWide Tryd.prog W .any base t v)
    (hW : DataW.Whole enc Tryd.prog Tryd.f5.params.toList Rows.crcFoursSpec.vars false W args.toList ds gs before)
    (hsz : (DataW.weightsEach Tryd.prog (Tryd.f5.params.toList ++ Rows.crcFoursSpec.plain.varTypes Tryd.prog) (ds ++ gs)).all (· ≤ reachBytes) = true) (hL : laidMetH Tryd.prog [("daybook/crc.halves", Rows.laid_daybook_crc_halves)] W) :
    Calls Tryd.prog 5 args W fun e W' => ∃ v, e = .returned v ∧ Rows.crcFoursSpec.post enc Tryd.prog Tryd.f5 false true false false W args v W' := by
  have hW' := hW
  obtain ⟨p, q, hA0, hV, rfl, hfz, hnd⟩ := hW
  have hA : DataW.TrodAll enc Tryd.prog W 0 (fun _ => true) true Tryd.f5.params.toList args.toList ds p := hA0
  rw [Tryd.params5] at hA hval hsz
  obtain ⟨v0, vs0, d0, ds0, p0, q0, hargs, rfl, rfl, h0, r0⟩ := trodAll_cons hA
  obtain ⟨v1, vs1, d1, ds1, p1, q1, rfl, rfl, rfl, h1, r1⟩ := trodAll_cons r0
  obtain ⟨rfl, rfl, rfl⟩ := trodAll_nil r1
  obtain rfl : args = #[v0, v1] := by cases args; simp_all
  obtain ⟨rfl, rfl⟩ := trodVars_none hV
  obtain ⟨a0, len0, cap0, rfl⟩ := okWide_slice Tryd.underlying26 (hval 0 26 v0 rfl rfl)
  have k0 := h0
  have lt0 : ∀ x ∈ p0, x.block < W.heap.size := by obtain ⟨m, hm⟩ := k0; exact DataW.trod_lt m _ _ _ hm
  obtain ⟨l0, hlen0, w0, c0⟩ : ∃ l : List Nat, l.length = len0 ∧ Bytes W a0 l ∧ Came W a0 len0 cap0 1 := by
    obtain ⟨fuel, hf⟩ := h0
    rcases open_ints Tryd.underlying26 Tryd.underlying5 (by kernel_rfl) hf with ⟨hcs, hx⟩ | ⟨x, l, c, zs, hcs, _, hl, hm, hz, hx, hcell, hwz⟩
    · simp [Value.cells] at hcs
      obtain ⟨rfl, rfl, rfl⟩ := hcs
      exact ⟨[], rfl, ⟨by simp, .inl rfl⟩, ⟨Nat.le_refl _, by simp, fun _ => rfl⟩⟩
    · simp [Value.cells] at hcs
      obtain ⟨rfl, rfl, rfl⟩ := hcs
      have hz2 : zs.length = cap0 := by simpa using hz
      obtain ⟨ll, e1, e2, e3⟩ := row_nats .u8 256 (by decide) wf_u8 W x zs len0 (by omega) hcell hwz
      have hd : d0 = .slice (lits .u8 (zs.take len0)) (lits .u8 (zs.drop len0)) := (Prod.mk.inj hx).1
      have hreach : cap0 * 1 ≤ 140737488351232 := by
        have := sized_slice hsz (j := 0) (t := 26) (e := 5) rfl (by rw [hd]; rfl) Tryd.underlying26
        rw [show Tryd.prog.bytesOf 5 = 1 from by kernel_rfl] at this
        simp only [lits, List.length_map, List.length_take, List.length_drop, reachBytes] at this
        have hmin : min len0 zs.length = len0 := Nat.min_eq_left (by omega)
        rw [hmin] at this
        have hcap : len0 + (zs.length - len0) = cap0 := by omega
        rw [hcap] at this
        exact this
      exact ⟨ll, e1, ⟨e2, e3⟩, ⟨hl, hreach, fun h => by cases h⟩⟩
  subst hlen0
  obtain ⟨a1, rfl, rfl, rfl, w1⟩ := open_int Tryd.underlying22 (hval 1 22 v1 rfl rfl) h1
  clear hA0
  refine (walk l0 a0 cap0 a1 W w0 c0 w1 (tab_of hL)).mono fun e W' ⟨he, bel⟩ => ?_
  subst he
  exact ⟨_, rfl, _, _, _, [], _, [], hW', trodAll_mk1 (shut_bool Tryd.underlying4 _), (trodAll_cons_mk (Below.trod laidOut (by kernel_rfl) (of_decide_eq_true (by kernel_rfl)) k0 bel lt0) (trodAll_cons_mk (shut_int Tryd.underlying22 w1) trodAll_mk0)), rfl, bel.frame _, fun h => by cases h⟩
set_option maxRecDepth 100000 in
theorem start (os : Os) : ∃ w0 : World, w0.os = os ∧ (w0.forCall (fun _ _ => 0) ⟨#[], #[.slice none 0 0, .int .u32 0], []⟩).variablesB Tryd.prog = true ∧
    ((w0.forCall (fun _ _ => 0) ⟨#[], #[.slice none 0 0, .int .u32 0], []⟩).heap.toList.drop Tryd.prog.globals.size).take ((begin Tryd.prog (fun _ _ => 0) default).world.heap.size - Tryd.prog.globals.size) = (begin Tryd.prog (fun _ _ => 0) default).world.heap.toList.drop Tryd.prog.globals.size ∧
    Input.okWideB Tryd.prog (w0.forCall (fun _ _ => 0) ⟨#[], #[.slice none 0 0, .int .u32 0], []⟩) 5 ⟨#[], #[.slice none 0 0, .int .u32 0], []⟩ = true ∧
    laidMet Tryd.prog Rows.crcFoursRow.laid (w0.forCall (fun _ _ => 0) ⟨#[], #[.slice none 0 0, .int .u32 0], []⟩).memory ∧
    ∀ (H : Type) (enc : TypeId × Value → H), DataW.whole enc Tryd.prog (w0.forCall (fun _ _ => 0) ⟨#[], #[.slice none 0 0, .int .u32 0], []⟩).memory Tryd.f5.params.toList Rows.crcFoursSpec.vars false (#[.slice none 0 0, .int .u32 0] : Array Value).toList 8 = some ([.nil, .lit (.int .u32 0)], [], []) :=
  ⟨{ World.holding Tryd.prog os ⟨#[], #[], []⟩ with heap := (World.holding Tryd.prog os ⟨#[], #[], []⟩).heap.modify 0 fun
      | .cells _ t frozen => .cells #[.int .u32 0, .int .u32 498536548, .int .u32 997073096, .int .u32 651767980, .int .u32 1994146192, .int .u32 1802195444, .int .u32 1303535960, .int .u32 1342533948, .int .u32 3988292384, .int .u32 4027552580, .int .u32 3604390888, .int .u32 3412177804, .int .u32 2607071920, .int .u32 2262029012, .int .u32 2685067896, .int .u32 3183342108] t frozen
      | o => o }, rfl, by kernel_rfl, by kernel_rfl, by kernel_rfl, laidMet_of_run' 8 (by kernel_rfl) (by kernel_rfl), fun _ _ => by kernel_rfl⟩
set_option maxRecDepth 100000 in
theorem lifted (os : Os) (started : os.Started) (H : Type) (enc : TypeId × Value → H) (F : Stop.Interp) :
    ReturnsInHanded {} Tryd.checked os 5 .any ((OpenSpec.ofChange Rows.crcFoursSpec).preRow enc Tryd.prog Tryd.f5 Rows.crcFoursRow.domain false Rows.crcFoursRow.laid) (((OpenSpec.ofChange Rows.crcFoursSpec).at F).post enc Tryd.prog Tryd.f5 false true false false) := by
  obtain ⟨w0, h1, h2, h3, h4, h5, h6⟩ := start os
  refine returnsInHanded_of_row (C := Tryd.checked) (s := OpenSpec.ofChange Rows.crcFoursSpec) own started (by kernel_rfl) Tryd.func5
    (witness_row_at (enc := enc) (C := Tryd.checked) false w0 #[.slice none 0 0, .int .u32 0] h1 h2 h3 h4
      (OpenSpec.preRow_of_cond 8 (h6 H enc) (by kernel_rfl) (fun k hk => by cases hk) (by kernel_rfl) h5)) ?_
  intro W base args ds gs before hval hW _ hcond hsz hL _ _
  exact contract H enc W base args ds gs before hval hW hsz hL
theorem said : Rows.CrcFoursSaid :=
  OpenClaim.holds_of_cond 5 Tryd.f5 rfl rfl rfl rfl rfl rfl rfl ⟨rfl, rfl, rfl, rfl, rfl⟩ rfl rfl rfl rfl rfl (by kernel_rfl) Tryd.func5 (by kernel_rfl)
    (of_decide_eq_true (by kernel_rfl)) (by unfold Func.isWrapper; first | (rw [if_pos (by decide +kernel)]; kernel_rfl) | (rw [if_neg (by decide +kernel)]; exact ⟨rfl, rfl⟩))
    (fun os started H enc _ F => by rw [OpenClaim.pre_eq_preRow]; exact lifted os started H enc F)
theorem plain (f : FuncId) (fn : Func) (hf : Tryd.pinned.checked.prog.funcNamed "daybook/daybooklaw03.CrcFours" = some f) (hfn : Tryd.pinned.checked.prog.funcs[f]? = some fn) :
    false = Tryd.pinned.checked.prog.looks [] ∧ ∀ (j : Nat) t, fn.params[j]? = some t → Tryd.pinned.checked.prog.wantsStandIn t = false := by
  obtain rfl : f = 5 := Option.some.inj ((show Tryd.prog.funcNamed "daybook/daybooklaw03.CrcFours" = some 5 by kernel_rfl).symm.trans hf) |>.symm
  obtain rfl : fn = Tryd.f5 := (Option.some.inj (Tryd.func5.symm.trans hfn)).symm
  refine ⟨by kernel_rfl, fun j t ht => ?_⟩
  rw [Tryd.params5] at ht
  have hm := Array.mem_of_getElem? ht
  have hall : ∀ t ∈ (#[26, 22] : Array TypeId), Tryd.prog.wantsStandIn t = false := by
    intro t ht
    simp only [List.mem_toArray, List.mem_cons, List.not_mem_nil, or_false] at ht
    rcases ht with rfl | rfl <;> kernel_rfl
  exact hall t hm
theorem card : Rows.CrcFoursCardSaid :=
  Claim7.holds_tied_plain_at .later [] _ _ _ _ said (fun _ h => by cases h) (by kernel_rfl) (fun _ h => by cases h) crcFours_row_tie rfl ⟨rfl, rfl⟩ (by kernel_rfl) rfl plain (by kernel_rfl)
end Go.Proofs.YtenekcnccmghhadDoor.crcFours
