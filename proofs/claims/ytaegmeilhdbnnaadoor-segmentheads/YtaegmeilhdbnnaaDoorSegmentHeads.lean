/- For all numbers and every text: segment.Header and segment.HeaderOf answer as the document says. No condition. -/
import Derived.Test.YtaegmeilhdbnnaaDoorCrcTie
import Derived.Test.YtaegmeilhdbnnaaDoorSg5
import Derived.Test.YtaegmeilhdbnnaaDoorSg6
import Derived.Test.YtaegmeilhdbnnaaDoorCopy
import Derived.SizedLaws
import Derived.ChangeOld
namespace Go.Proofs.YtaegmeilhdbnnaaDoor.segmentHeads
open Go.ChangeShapes Go.WideShapes Go.ChangeAt Go.RowKit
set_option linter.unusedVariables false
set_option maxRecDepth 20000 in
set_option maxHeartbeats 2000000 in
theorem walk (num first : Int) (l : List Nat) (a : Option Addr) (cap : Nat) (w : World) (w0 : (Lit.int .i64 num).wf = true) (w1 : (Lit.int .i64 first).wf = true) (hb : Bytes w a l) (hc : Came w a l.length cap 1) (ht : Tab w) :
    Calls Tryd.prog 3 #[.int .i64 num, .int .i64 first, .slice a l.length cap] w fun e w' => e = .returned (.bool true) ∧ Below w.heap.size w w' := by
  obtain ⟨hf, hr, hn⟩ := hc
  obtain ⟨n, hN⟩ : ∃ n, l.length = n := ⟨_, rfl⟩
  rw [hN] at hf ⊢
  have hl : n ≤ 140737488351232 := by omega
  have HB : Hid (Bytes w a l ∧ l.length = n ∧ Tab w) := ⟨hb, hN, ht⟩
  obtain ⟨E, hE⟩ : ∃ E, hdE num first = E := ⟨_, rfl⟩
  obtain ⟨V, hV⟩ : ∃ V, hdV num first = V := ⟨_, rfl⟩
  have hVl : V.length ≤ 16404 := by
    rw [← hV]
    unfold hdV
    by_cases h : sgB num first = true
    · rw [if_pos h]
      obtain ⟨x, y, rfl, rfl, h1, h2, h3, h4⟩ := sgB_nat h
      have := (hdr_body x y h2 h4).2
      rw [hdrL_len]
      simp only [Int.toNat_natCast]
      omega
    · rw [if_neg h]; simp
  obtain ⟨m, hm⟩ : ∃ m, V.length = m := ⟨_, rfl⟩
  have HE : Hid (hdE num first = E ∧ hdV num first = V ∧ V.length = m ∧ V.length ≤ 16404) := ⟨hE, hV, hm, hVl⟩
  obtain ⟨X, hX⟩ : ∃ X, hoX l = X := ⟨_, rfl⟩
  obtain ⟨Y, hY⟩ : ∃ Y, hoY l = Y := ⟨_, rfl⟩
  obtain ⟨Z, hZ⟩ : ∃ Z, hoN l = Z := ⟨_, rfl⟩
  obtain ⟨G, hG⟩ : ∃ G, hoE l = G := ⟨_, rfl⟩
  have HO : Hid (HoV l = .tuple #[.int .i64 (X : Int), .int .i64 (Y : Int), .int .i64 (Z : Int), .int .i64 (G : Int)]) := by rw [← hX, ← hY, ← hZ, ← hG]; rfl
  have T1 : Hid True := trivial
  clear hb ht hN w0 w1 hE hV hm hVl hX hY hZ hG hr hn
  go_enter Tryd.func3, Tryd.ntmps3
  go_wp2_with (first
    | (go_at_call 9; refine (head14_any w HB.out.2.2).mono ?_; rintro e w1 ⟨rfl, hb1⟩; have HB1 : Hid (Below w.heap.size w w1) := hb1; clear hb1)
    | (go_at_call 10; refine (rheader_any num first w1).mono ?_; rw [HE.out.1, HE.out.2.1]; rintro e w2 ⟨v2, rfl, ho2, hb2⟩; obtain ⟨a2, c2, hv2, hc2, _, hy2, _⟩ := ho2.shape; rw [HE.out.2.2.1] at hv2; subst hv2; have HB2 : Hid (Below w.heap.size w w2) := below_next HB1.out hb2; have HY2 : Hid (Bytes w2 a2 V) := hy2; clear ho2 hb2 hy2 hc2)
    | (go_at_call 11; refine (header_any num first w2 (HB.out.2.2.keep HB2.out)).mono ?_; rw [HE.out.1, HE.out.2.1]; rintro e w3 ⟨v3, rfl, ho3, hb3⟩; obtain ⟨a3, c3, hv3, hc3, _, hy3, _⟩ := ho3.shape; rw [HE.out.2.2.1] at hv3; subst hv3; have HB3 : Hid (Below w.heap.size w w3) := below_next HB2.out hb3; have HY3 : Hid (Bytes w3 a3 V ∧ Bytes w3 a2 V) := ⟨hy3, HY2.out.keep hb3⟩; clear ho3 hb3 hy3 hc3)
    | (go_at_call 12; refine (same_at V V m m a3 a2 c3 c2 w3 HE.out.2.2.1 HE.out.2.2.1 HY3.out.1 HY3.out.2 (by have := HE.out.2.2.2; unfold maxLen; omega) (by have := HE.out.2.2.2; unfold maxLen; omega)).mono ?_; rw [decide_eq_true (rfl : V = V)]; rintro r w4 ⟨rfl, nq, hq⟩; have HB4 : Hid (Below w.heap.size w w4) := (by rw [hq]; exact below_drewN HB3.out nq); clear hq)
    | (go_at_call 13; refine (rheaderOf_any l n a cap w4 HB.out.2.1 (HB.out.1.keep HB4.out) (by omega) hf).mono ?_; rw [HO.out]; rintro r w5 ⟨rfl, hb5⟩; have HB5 : Hid (Below w.heap.size w w5) := below_next HB4.out hb5; clear hb5)
    | (go_at_call 15; refine (copy_n l n a cap w5 HB.out.2.1 (HB.out.1.keep HB5.out) (by omega)).mono ?_; rintro r w6 ⟨a6, c6, rfl, hc6, hy6, hb6⟩; have HB6 : Hid (Below w.heap.size w w6 ∧ Bytes w6 a6 l ∧ n ≤ c6) := ⟨below_next HB5.out hb6, hy6, hc6⟩; clear hb6 hy6 hc6)
    | (go_at_call 14; refine (headerOf_any l n a6 c6 w6 HB.out.2.1 HB6.out.2.1 (by omega) HB6.out.2.2 (HB.out.2.2.keep HB6.out.1)).mono ?_; rw [HO.out]; rintro r w7 ⟨rfl, hb7⟩; have HB7 : Hid (Below w.heap.size w w7) := below_next HB6.out.1 hb7; clear hb7))
  go_ret
  exact ⟨rfl, HB7.out⟩
theorem own : ownKnob Tryd.prog.godebug = none := by kernel_rfl
theorem laidOut : laidOutB Tryd.prog = true := by kernel_rfl
set_option maxRecDepth 100000 in
theorem contract (H : Type) (enc : TypeId × Value → H) (W : World) (base : Nat) (args : Array Value) (ds gs : List (DataW H)) (before : List MemPlace)
    (hval : ∀ (j : Nat) t v, Tryd.f3.params[j]? = some t → args[j]? = some v → Value.okWide Tryd.prog W .any base t v)
    (hW : DataW.Whole enc Tryd.prog Tryd.f3.params.toList Rows.segmentHeadsSpec.vars false W args.toList ds gs before)
    (hsz : (DataW.weightsEach Tryd.prog (Tryd.f3.params.toList ++ Rows.segmentHeadsSpec.plain.varTypes Tryd.prog) (ds ++ gs)).all (· ≤ reachBytes) = true) (hL : laidMetH Tryd.prog ([("daybook/crc.halves", Rows.laid_daybook_crc_halves)]) W) :
    Calls Tryd.prog 3 args W fun e W' => ∃ v, e = .returned v ∧ Rows.segmentHeadsSpec.post enc Tryd.prog Tryd.f3 false true false false W args v W' := by
  have hW' := hW
  obtain ⟨p, q, hA0, hV, rfl, hfz, hnd⟩ := hW
  have hA : DataW.TrodAll enc Tryd.prog W 0 (fun _ => true) true Tryd.f3.params.toList args.toList ds p := hA0
  rw [Tryd.params3] at hA hval hsz
  obtain ⟨v0, vs0, d0, ds0, p0, q0, hargs, rfl, rfl, h0, r0⟩ := trodAll_cons hA
  obtain ⟨v1, vs1, d1, ds1, p1, q1, rfl, rfl, rfl, h1, r1⟩ := trodAll_cons r0
  obtain ⟨v2, vs2, d2, ds2, p2, q2, rfl, rfl, rfl, h2, r2⟩ := trodAll_cons r1
  obtain ⟨rfl, rfl, rfl⟩ := trodAll_nil r2
  obtain rfl : args = #[v0, v1, v2] := by cases args; simp_all
  obtain ⟨rfl, rfl⟩ := trodVars_none hV
  obtain ⟨a0, rfl, rfl, rfl, w0⟩ := open_int Tryd.underlying3 (hval 0 3 v0 rfl rfl) h0
  obtain ⟨a1, rfl, rfl, rfl, w1⟩ := open_int Tryd.underlying3 (hval 1 3 v1 rfl rfl) h1
  obtain ⟨a2, len2, cap2, rfl⟩ := okWide_slice Tryd.underlying22 (hval 2 22 v2 rfl rfl)
  have k2 := h2
  have lt2 : ∀ x ∈ p2, x.block < W.heap.size := by obtain ⟨m, hm⟩ := k2; exact DataW.trod_lt m _ _ _ hm
  obtain ⟨l2, hlen2, w2, c2⟩ : ∃ l : List Nat, l.length = len2 ∧ Bytes W a2 l ∧ Came W a2 len2 cap2 1 := by
    obtain ⟨fuel, hf⟩ := h2
    rcases open_ints Tryd.underlying22 Tryd.underlying5 (by kernel_rfl) hf with ⟨hcs, hx⟩ | ⟨x, l, c, zs, hcs, _, hl, hm, hz, hx, hcell, hwz⟩
    · simp [Value.cells] at hcs
      obtain ⟨rfl, rfl, rfl⟩ := hcs
      exact ⟨[], rfl, ⟨by simp, .inl rfl⟩, ⟨Nat.le_refl _, by simp, fun _ => rfl⟩⟩
    · simp [Value.cells] at hcs
      obtain ⟨rfl, rfl, rfl⟩ := hcs
      have hz2 : zs.length = cap2 := by simpa using hz
      obtain ⟨ll, e1, e2, e3⟩ := row_nats .u8 256 (by decide) wf_u8 W x zs len2 (by omega) hcell hwz
      have hd : d2 = .slice (lits .u8 (zs.take len2)) (lits .u8 (zs.drop len2)) := (Prod.mk.inj hx).1
      have hreach : cap2 * 1 ≤ 140737488351232 := by
        have := sized_slice hsz (j := 2) (t := 22) (e := 5) rfl (by rw [hd]; rfl) Tryd.underlying22
        rw [show Tryd.prog.bytesOf 5 = 1 from by kernel_rfl] at this
        simp only [lits, List.length_map, List.length_take, List.length_drop, reachBytes] at this
        have hmin : min len2 zs.length = len2 := Nat.min_eq_left (by omega)
        rw [hmin] at this
        have hcap : len2 + (zs.length - len2) = cap2 := by omega
        rw [hcap] at this
        exact this
      exact ⟨ll, e1, ⟨e2, e3⟩, ⟨hl, hreach, fun h => by cases h⟩⟩
  subst hlen2
  clear hA0
  refine (walk a0 a1 l2 a2 cap2 W w0 w1 w2 c2 (tab_of hL)).mono fun e W' ⟨he, bel⟩ => ?_
  subst he
  exact ⟨_, rfl, _, _, _, [], _, [], hW', trodAll_mk1 (shut_bool Tryd.underlying4 _), (trodAll_cons_mk (shut_int Tryd.underlying3 w0) (trodAll_cons_mk (shut_int Tryd.underlying3 w1) (trodAll_cons_mk (Below.trod laidOut (by kernel_rfl) (of_decide_eq_true (by kernel_rfl)) k2 bel lt2) trodAll_mk0))), rfl, bel.frame _, fun h => by cases h⟩
set_option maxRecDepth 100000 in
theorem start (os : Os) : ∃ w0 : World, w0.os = os ∧ (w0.forCall (fun _ _ => 0) ⟨#[], #[.int .i64 0, .int .i64 0, .slice none 0 0], []⟩).variablesB Tryd.prog = true ∧
    ((w0.forCall (fun _ _ => 0) ⟨#[], #[.int .i64 0, .int .i64 0, .slice none 0 0], []⟩).heap.toList.drop Tryd.prog.globals.size).take ((begin Tryd.prog (fun _ _ => 0) default).world.heap.size - Tryd.prog.globals.size) = (begin Tryd.prog (fun _ _ => 0) default).world.heap.toList.drop Tryd.prog.globals.size ∧
    Input.okWideB Tryd.prog (w0.forCall (fun _ _ => 0) ⟨#[], #[.int .i64 0, .int .i64 0, .slice none 0 0], []⟩) 3 ⟨#[], #[.int .i64 0, .int .i64 0, .slice none 0 0], []⟩ = true ∧
    laidMet Tryd.prog Rows.segmentHeadsRow.laid (w0.forCall (fun _ _ => 0) ⟨#[], #[.int .i64 0, .int .i64 0, .slice none 0 0], []⟩).memory ∧
    ∀ (H : Type) (enc : TypeId × Value → H), DataW.whole enc Tryd.prog (w0.forCall (fun _ _ => 0) ⟨#[], #[.int .i64 0, .int .i64 0, .slice none 0 0], []⟩).memory Tryd.f3.params.toList Rows.segmentHeadsSpec.vars false (#[.int .i64 0, .int .i64 0, .slice none 0 0] : Array Value).toList 8 = some ([.lit (.int .i64 0), .lit (.int .i64 0), .nil], [], []) :=
  ⟨{ World.holding Tryd.prog os ⟨#[], #[], []⟩ with heap := (World.holding Tryd.prog os ⟨#[], #[], []⟩).heap.modify 0 fun
      | .cells _ t frozen => .cells #[.int .u32 0, .int .u32 498536548, .int .u32 997073096, .int .u32 651767980, .int .u32 1994146192, .int .u32 1802195444, .int .u32 1303535960, .int .u32 1342533948, .int .u32 3988292384, .int .u32 4027552580, .int .u32 3604390888, .int .u32 3412177804, .int .u32 2607071920, .int .u32 2262029012, .int .u32 2685067896, .int .u32 3183342108] t frozen
      | o => o }, rfl, by kernel_rfl, by kernel_rfl, by kernel_rfl, laidMet_of_run' 8 (by kernel_rfl) (by kernel_rfl), fun _ _ => by kernel_rfl⟩
set_option maxRecDepth 100000 in
theorem lifted (os : Os) (started : os.Started) (H : Type) (enc : TypeId × Value → H) (F : Stop.Interp) :
    ReturnsInHanded {} Tryd.checked os 3 .any ((OpenSpec.ofChange Rows.segmentHeadsSpec).preRow enc Tryd.prog Tryd.f3 Rows.segmentHeadsRow.domain false Rows.segmentHeadsRow.laid) (((OpenSpec.ofChange Rows.segmentHeadsSpec).at F).post enc Tryd.prog Tryd.f3 false true false false) := by
  obtain ⟨w0, h1, h2, h3, h4, h5, h6⟩ := start os
  refine returnsInHanded_of_row (C := Tryd.checked) (s := OpenSpec.ofChange Rows.segmentHeadsSpec) own started (by kernel_rfl) Tryd.func3
    (witness_row_at (enc := enc) (C := Tryd.checked) false w0 #[.int .i64 0, .int .i64 0, .slice none 0 0] h1 h2 h3 h4
      (OpenSpec.preRow_of_cond 8 (h6 H enc) (by kernel_rfl) (fun k hk => by cases hk) (by kernel_rfl) h5)) ?_
  intro W base args ds gs before hval hW _ hcond hsz hL _ _
  exact contract H enc W base args ds gs before hval hW hsz hL
theorem said : Rows.SegmentHeadsSaid :=
  OpenClaim.holds_of_cond 3 Tryd.f3 rfl rfl rfl rfl rfl rfl rfl ⟨rfl, rfl, rfl, rfl, rfl⟩ rfl rfl rfl rfl rfl (by kernel_rfl) Tryd.func3 (by kernel_rfl)
    (of_decide_eq_true (by kernel_rfl)) (by unfold Func.isWrapper; first | (rw [if_pos (by decide +kernel)]; kernel_rfl) | (rw [if_neg (by decide +kernel)]; exact ⟨rfl, rfl⟩))
    (fun os started H enc _ F => by rw [OpenClaim.pre_eq_preRow]; exact lifted os started H enc F)
theorem plain (f : FuncId) (fn : Func) (hf : Tryd.pinned.checked.prog.funcNamed "daybook/daybooklaw14.SegmentHeads" = some f) (hfn : Tryd.pinned.checked.prog.funcs[f]? = some fn) :
    false = Tryd.pinned.checked.prog.looks [] ∧ ∀ (j : Nat) t, fn.params[j]? = some t → Tryd.pinned.checked.prog.wantsStandIn t = false := by
  obtain rfl : f = 3 := Option.some.inj ((show Tryd.prog.funcNamed "daybook/daybooklaw14.SegmentHeads" = some 3 by kernel_rfl).symm.trans hf) |>.symm
  obtain rfl : fn = Tryd.f3 := (Option.some.inj (Tryd.func3.symm.trans hfn)).symm
  refine ⟨by kernel_rfl, fun j t ht => ?_⟩
  rw [Tryd.params3] at ht
  have hm := Array.mem_of_getElem? ht
  have hall : ∀ t ∈ (#[3, 3, 22] : Array TypeId), Tryd.prog.wantsStandIn t = false := by
    intro t ht
    simp only [List.mem_toArray, List.mem_cons, List.not_mem_nil, or_false] at ht
    rcases ht with rfl | rfl | rfl <;> kernel_rfl
  exact hall t hm
theorem card : Rows.SegmentHeadsCardSaid :=
  Claim7.holds_tied_plain_at .later [] _ _ _ _ said (fun _ h => by cases h) (by kernel_rfl) (fun _ h => by cases h) segmentHeads_row_tie rfl ⟨rfl, rfl⟩ (by kernel_rfl) rfl plain (by kernel_rfl)
end Go.Proofs.YtaegmeilhdbnnaaDoor.segmentHeads
