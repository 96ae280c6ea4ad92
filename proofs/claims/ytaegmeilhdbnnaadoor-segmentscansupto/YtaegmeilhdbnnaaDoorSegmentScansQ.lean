/- For every text: segment.Scan answers as the document says, events and all. Condition: the argument holds at most 1048576 values and letters (the second form). -/
import Derived.Test.YtaegmeilhdbnnaaDoorJ00
import Derived.Test.YtaegmeilhdbnnaaDoorJ17
import Derived.Test.YtaegmeilhdbnnaaDoorJ18
import Derived.Deep.CondSized
import Derived.SizedLaws
import Derived.ChangeOld
namespace Go.Proofs.YtaegmeilhdbnnaaDoor.segmentScans
open Go.ChangeShapes Go.WideShapes Go.ChangeAt Go.RowKit
set_option linter.unusedVariables false
theorem scanP_form (l : List Nat) (hmem : ∀ z ∈ l, z < 256) (hl : l.length ≤ 16777216) : ∃ (X Y C : Int) (S : Bool) (T G E : Int) (n k : Nat) (EV : List Fm) (M : List Mk), EV.length = n ∧ n ≤ 512 ∧ M.length = k ∧ k ≤ 512 ∧ ∀ base e w', ScanP l base e w' → ∃ (xs : List It) (a1 a2 : Option Addr) (c1 c2 : Nat), e = .returned (.tuple #[SgV X Y C S T (.slice a2 k c2) G, .slice a1 n c1, .int .i64 E]) ∧ xs.map It.fm = EV ∧ xs.length = n ∧ PlcA w' a1 xs ∧ Marks w' a2 M := by
  cases hh : hdr l with
  | none =>
    refine ⟨0, 0, 0, false, 0, 0, 71, 0, 0, [], [], rfl, by omega, rfl, by omega, ?_⟩
    rintro base e w' (⟨_, rfl⟩ | ⟨h, _⟩)
    · exact ⟨[], none, none, 0, 0, rfl, rfl, rfl, ⟨.inl rfl, fun x hx => by cases hx⟩, .inl rfl⟩
    · rw [hh] at h; cases h
  | some q =>
    obtain ⟨X, Y⟩ := q
    obtain ⟨h0, hK, hS, hX1, hX2, hY1, hY2, hbd, hpn⟩ := hdr_some l hmem X Y hh
    have hoY' : hoY l = Y := by unfold hoY; rw [hh]; rfl
    have hok : EvOk Y (sgE l) := by unfold sgE; rw [hoY']; exact (runL_ok l (pn l + 20) Y hY1 hpn hl).1
    have hk : (sgM l).length ≤ 512 := by
      unfold sgM
      split
      · simp
      · have h1 := bldL_len (sgF l : Int) ((sgE l).map evP)
        rw [List.length_map] at h1
        have := hok.len
        omega
    refine ⟨hoX l, hoY l, (sgE l).length, decide (0 < sgF l), sgF l, (sgG l : Int) + (sgN l : Int), 0, (sgE l).length, (sgM l).length, sgE l, sgM l, rfl, hok.len, rfl, hk, ?_⟩
    rintro base e w' (⟨h, _⟩ | ⟨_, xs, v, mv, h1, h2, h3, h4⟩)
    · rw [hh] at h; cases h
    · obtain ⟨a1, c1, hv, hp⟩ := h3.plc
      obtain ⟨a2, c2, hv2, _, _, hm, _⟩ := h4.shape
      have hx : xs.length = (sgE l).length := by rw [← h1, List.length_map]
      rw [hx] at hv
      subst hv hv2
      exact ⟨xs, a1, a2, c1, c2, h2, h1, hx, hp, hm⟩
set_option maxRecDepth 20000 in
set_option maxHeartbeats 4000000 in
theorem walk (l : List Nat) (a : Option Addr) (cap : Nat) (w : World) (hb : Bytes w a l) (hc : Came w a l.length cap 1) (hsum : cap ≤ 1048576) (ht : Tab w) :
    Calls Tryd.prog 4 #[.slice a l.length cap] w fun e w' => e = .returned (.bool true) ∧ Below w.heap.size w w' := by
  obtain ⟨hf, hr, hn⟩ := hc
  obtain ⟨m, hN⟩ : ∃ n, l.length = n := ⟨_, rfl⟩
  rw [hN] at hf ⊢
  have hl : m ≤ 1048576 := by omega
  have HB : Hid (Bytes w a l ∧ l.length = m ∧ Tab w) := ⟨hb, hN, ht⟩
  obtain ⟨X, Y, C, S, T, G, E, n, k, EV, M, e1, e2, e3, e4, hform⟩ := scanP_form l hb.mem (by rw [hN]; omega)
  have HF : Hid (EV.length = n ∧ M.length = k ∧ ∀ base e w', ScanP l base e w' → ∃ (xs : List It) (a1 a2 : Option Addr) (c1 c2 : Nat), e = .returned (.tuple #[SgV X Y C S T (.slice a2 k c2) G, .slice a1 n c1, .int .i64 E]) ∧ xs.map It.fm = EV ∧ xs.length = n ∧ PlcA w' a1 xs ∧ Marks w' a2 M) := ⟨e1, e3, hform⟩
  clear hb ht hN hr hn e1 e3 hform
  go_enter Tryd.func4, Tryd.ntmps4
  go_wp2_with (first
    | (go_at_call 9; refine (head14_any w HB.out.2.2).mono ?_; rintro e w1 ⟨rfl, hb1⟩; have HB1 : Hid (Below w.heap.size w w1) := hb1; clear hb1)
    | (go_at_call 15; refine (copy_n l m a cap w1 HB.out.2.1 (HB.out.1.keep HB1.out) (by omega)).mono ?_; rintro r w2 ⟨a2, c2, rfl, hc2, hy2, hb2⟩; have HB2 : Hid (Below w.heap.size w w2 ∧ Bytes w2 a2 l ∧ m ≤ c2) := ⟨below_next HB1.out hb2, hy2, hc2⟩; clear hb2 hy2 hc2)
    | (go_at_call 16; refine (rscan14_any l m a cap w2 HB.out.2.1 (HB.out.1.keep HB2.out.1) hf (by omega)).mono ?_; rintro r w3 ⟨hs3, hb3⟩; obtain ⟨xs, a3, a4, c3, c4, rfl, hx3, hl3, hp3, hm3⟩ := HF.out.2.2 _ _ _ hs3; have HB3 : Hid (Below w.heap.size w w3 ∧ Below w2.heap.size w2 w3 ∧ xs.map It.fm = EV ∧ xs.length = n ∧ PlcA w3 a3 xs ∧ Marks w3 a4 M) := ⟨below_next HB2.out.1 hb3, hb3, hx3, hl3, hp3, hm3⟩; have HW3 : Hid (Below w3.heap.size w3 (w3.alloc (.cells (SgA X Y C S T (.slice a4 k c4) G) 38)) ∧ SegAt (w3.alloc (.cells (SgA X Y C S T (.slice a4 k c4) G) 38)) w3.heap.size X Y C S T (.slice a4 k c4) G) := ⟨(Below.refl _ _).alloc (Nat.le_refl _) _, SegAt.new w3 X Y C S T (.slice a4 k c4) G⟩; clear hs3 hb3 hx3 hl3 hp3 hm3)
    | (go_at_call 17; refine (scan14_any l m a2 c2 _ HB.out.2.1 ((HB2.out.2.1.keep HB3.out.2.1).keep HW3.out.1) HB2.out.2.2 (by omega) ((HB.out.2.2.keep HB3.out.1).keep HW3.out.1)).mono ?_; rintro r w5 ⟨hs5, hb5⟩; obtain ⟨ys, a5, a6, c5, c6, rfl, hx5, hl5, hp5, hm5⟩ := HF.out.2.2 _ _ _ hs5; have h35 := HW3.out.1.trans (hb5.mono HW3.out.1.size); have HB5 : Hid (Below w.heap.size w w5 ∧ Below w3.heap.size w3 w5 ∧ ys.map It.fm = EV ∧ ys.length = n ∧ PlcA w5 a5 ys ∧ Marks w5 a6 M ∧ SegAt w5 w3.heap.size X Y C S T (.slice a4 k c4) G) := ⟨below_next HB3.out.1 h35, h35, hx5, hl5, hp5, hm5, HW3.out.2.keep hb5⟩; have HW5 : Hid (Below w5.heap.size w5 (w5.alloc (.cells (SgA X Y C S T (.slice a6 k c6) G) 38)) ∧ SegAt (w5.alloc (.cells (SgA X Y C S T (.slice a6 k c6) G) 38)) w5.heap.size X Y C S T (.slice a6 k c6) G) := ⟨(Below.refl _ _).alloc (Nat.le_refl _) _, SegAt.new w5 X Y C S T (.slice a6 k c6) G⟩; have T1 : Hid True := trivial; clear hs5 hb5 hx5 hl5 hp5 hm5 h35)
    | ((with_reducible refine frm_loadg 38 ?_); clear T1; refine wpList_load_segg rfl _ rfl HW5.out.2 rfl ?_)
    | ((with_reducible refine frm_loadg 38 ?_); refine wpList_load_segg rfl _ rfl (HB5.out.2.2.2.2.2.2.keep HW5.out.1) rfl ?_)
    | (go_at_call 18; refine (segsame_any X Y C S T G M k a6 a4 c6 c4 _ HF.out.2.1 (HB5.out.2.2.2.2.2.1.keep HW5.out.1) (((HB3.out.2.2.2.2.2).keep HB5.out.2.1).keep HW5.out.1) (by omega)).mono ?_; rintro r w7 ⟨rfl, hb7⟩; have HB7 : Hid (Below w5.heap.size w5 w7) := HW5.out.1.trans (hb7.mono HW5.out.1.size); clear hb7)
    | (go_at_call 19; refine (psame_any ys xs n a5 a3 c5 c3 w7 (HB5.out.2.2.1.trans HB3.out.2.2.1.symm) HB5.out.2.2.2.1 (HB5.out.2.2.2.2.1.keep HB7.out) ((HB3.out.2.2.2.2.1.keep HB5.out.2.1).keep HB7.out) (by omega)).mono ?_; rintro r w8 ⟨rfl, hb8⟩; have HB8 : Hid (Below w5.heap.size w5 w8) := below_next HB7.out hb8; clear hb8)
    | (go_at_call 12; refine (same_at l l m m a2 a c2 cap w8 HB.out.2.1 HB.out.2.1 (((HB2.out.2.1.keep HB3.out.2.1).keep HB5.out.2.1).keep HB8.out) (HB.out.1.keep (below_next HB5.out.1 HB8.out)) (by rw [HB.out.2.1]; unfold maxLen; omega) (by rw [HB.out.2.1]; unfold maxLen; omega)).mono ?_; rw [decide_eq_true (rfl : l = l)]; rintro r w9 ⟨rfl, nq, rfl⟩))
  go_ret
  exact ⟨rfl, below_drewN (below_next HB5.out.1 HB8.out) nq⟩
theorem own : ownKnob Tryd.prog.godebug = none := by kernel_rfl
theorem laidOut : laidOutB Tryd.prog = true := by kernel_rfl
set_option maxRecDepth 100000 in
theorem contract (H : Type) (enc : TypeId × Value → H) (W : World) (base : Nat) (args : Array Value) (ds gs : List (DataW H)) (before : List MemPlace)
    (hval : ∀ (j : Nat) t v, Tryd.f4.params[j]? = some t → args[j]? = some v → Value.okWide Tryd.prog W .any base t v)
    (hW : DataW.Whole enc Tryd.prog Tryd.f4.params.toList Rows.segmentScansSpec.vars false W args.toList ds gs before)
    (hsz : (DataW.weightsEach Tryd.prog (Tryd.f4.params.toList ++ Rows.segmentScansSpec.plain.varTypes Tryd.prog) (ds ++ gs)).all (· ≤ reachBytes) = true) (hk : Rows.uptoSmall H (ds ++ gs) = true) (hL : laidMetH Tryd.prog ([("daybook/crc.halves", Rows.laid_daybook_crc_halves)]) W) :
    Calls Tryd.prog 4 args W fun e W' => ∃ v, e = .returned v ∧ Rows.segmentScansSpec.post enc Tryd.prog Tryd.f4 false true false false W args v W' := by
  have hW' := hW
  obtain ⟨p, q, hA0, hV, rfl, hfz, hnd⟩ := hW
  have hA : DataW.TrodAll enc Tryd.prog W 0 (fun _ => true) true Tryd.f4.params.toList args.toList ds p := hA0
  rw [Tryd.params4] at hA hval hsz
  obtain ⟨v0, vs0, d0, ds0, p0, q0, hargs, rfl, rfl, h0, r0⟩ := trodAll_cons hA
  obtain ⟨rfl, rfl, rfl⟩ := trodAll_nil r0
  obtain rfl : args = #[v0] := by cases args; simp_all
  obtain ⟨rfl, rfl⟩ := trodVars_none hV
  obtain ⟨a0, len0, cap0, rfl⟩ := okWide_slice Tryd.underlying22 (hval 0 22 v0 rfl rfl)
  have k0 := h0
  have lt0 : ∀ x ∈ p0, x.block < W.heap.size := by obtain ⟨m, hm⟩ := k0; exact DataW.trod_lt m _ _ _ hm
  obtain ⟨l0, hlen0, w0, c0, u0⟩ : ∃ l : List Nat, l.length = len0 ∧ Bytes W a0 l ∧ Came W a0 len0 cap0 1 ∧ cap0 + 1 ≤ Rows.uptoBulk d0 := by
    obtain ⟨fuel, hf⟩ := h0
    rcases open_ints Tryd.underlying22 Tryd.underlying5 (by kernel_rfl) hf with ⟨hcs, hx⟩ | ⟨x, l, c, zs, hcs, _, hl, hm, hz, hx, hcell, hwz⟩
    · simp [Value.cells] at hcs
      obtain ⟨rfl, rfl, rfl⟩ := hcs
      obtain ⟨rfl, rfl⟩ := Prod.mk.inj hx
      exact ⟨[], rfl, ⟨by simp, .inl rfl⟩, ⟨Nat.le_refl _, by simp, fun _ => rfl⟩, by simp [Rows.uptoBulk]⟩
    · simp [Value.cells] at hcs
      obtain ⟨rfl, rfl, rfl⟩ := hcs
      have hz2 : zs.length = cap0 := by simpa using hz
      obtain ⟨ll, e1, e2, e3⟩ := row_nats .u8 256 (by decide) wf_u8 W x zs len0 (by omega) hcell hwz
      have hd : d0 = .slice (lits .u8 (zs.take len0)) (lits .u8 (zs.drop len0)) := (Prod.mk.inj hx).1
      have hreach : cap0 * 1 ≤ 140737488351232 := by
        have := sized_slice hsz (j := 0) (t := 22) (e := 5) rfl (by rw [hd]; rfl) Tryd.underlying22
        rw [show Tryd.prog.bytesOf 5 = 1 from by kernel_rfl] at this
        simp only [lits, List.length_map, List.length_take, List.length_drop, reachBytes] at this
        have hmin : min len0 zs.length = len0 := Nat.min_eq_left (by omega)
        rw [hmin] at this
        have hcap : len0 + (zs.length - len0) = cap0 := by omega
        rw [hcap] at this
        exact this
      refine ⟨ll, e1, ⟨e2, e3⟩, ⟨hl, hreach, fun h => by cases h⟩, ?_⟩
      rw [hd]
      have := bulks.slice_le (lits (H := H) .u8 (zs.take len0)) (lits .u8 (zs.drop len0))
      simp only [lits, List.length_map, List.length_take, List.length_drop] at this ⊢
      omega
  subst hlen0
  have hbk := bulks.bound hk
  simp only [List.append_nil, Rows.uptoBulkAll] at hbk
  have hsum : cap0 ≤ 1048576 := by omega
  clear hA0
  refine (walk l0 a0 cap0 W w0 c0 hsum (tab_of hL)).mono fun e W' ⟨he, bel⟩ => ?_
  subst he
  exact ⟨_, rfl, _, _, _, [], _, [], hW', trodAll_mk1 (shut_bool Tryd.underlying4 _), (trodAll_cons_mk (Below.trod laidOut (by kernel_rfl) (of_decide_eq_true (by kernel_rfl)) k0 bel lt0) trodAll_mk0), rfl, bel.frame _, fun h => by cases h⟩
set_option maxRecDepth 100000 in
theorem start (os : Os) : ∃ w0 : World, w0.os = os ∧ (w0.forCall (fun _ _ => 0) ⟨#[], #[.slice none 0 0], []⟩).variablesB Tryd.prog = true ∧
    ((w0.forCall (fun _ _ => 0) ⟨#[], #[.slice none 0 0], []⟩).heap.toList.drop Tryd.prog.globals.size).take ((begin Tryd.prog (fun _ _ => 0) default).world.heap.size - Tryd.prog.globals.size) = (begin Tryd.prog (fun _ _ => 0) default).world.heap.toList.drop Tryd.prog.globals.size ∧
    Input.okWideB Tryd.prog (w0.forCall (fun _ _ => 0) ⟨#[], #[.slice none 0 0], []⟩) 4 ⟨#[], #[.slice none 0 0], []⟩ = true ∧
    laidMet Tryd.prog Rows.segmentScansUptoRow.laid (w0.forCall (fun _ _ => 0) ⟨#[], #[.slice none 0 0], []⟩).memory ∧
    ∀ (H : Type) (enc : TypeId × Value → H), DataW.whole enc Tryd.prog (w0.forCall (fun _ _ => 0) ⟨#[], #[.slice none 0 0], []⟩).memory Tryd.f4.params.toList Rows.segmentScansSpec.vars false (#[.slice none 0 0] : Array Value).toList 8 = some ([.nil], [], []) :=
  ⟨{ World.holding Tryd.prog os ⟨#[], #[], []⟩ with heap := (World.holding Tryd.prog os ⟨#[], #[], []⟩).heap.modify 0 fun
      | .cells _ t frozen => .cells #[.int .u32 0, .int .u32 498536548, .int .u32 997073096, .int .u32 651767980, .int .u32 1994146192, .int .u32 1802195444, .int .u32 1303535960, .int .u32 1342533948, .int .u32 3988292384, .int .u32 4027552580, .int .u32 3604390888, .int .u32 3412177804, .int .u32 2607071920, .int .u32 2262029012, .int .u32 2685067896, .int .u32 3183342108] t frozen
      | o => o }, rfl, by kernel_rfl, by kernel_rfl, by kernel_rfl, laidMet_of_run' 8 (by kernel_rfl) (by kernel_rfl), fun _ _ => by kernel_rfl⟩
set_option maxRecDepth 100000 in
theorem lifted (os : Os) (started : os.Started) (H : Type) (enc : TypeId × Value → H) (F : Stop.Interp) :
    ReturnsInHanded {} Tryd.checked os 4 .any ((Rows.OpenSpec.upto Rows.segmentScansSpec).preRow enc Tryd.prog Tryd.f4 Rows.segmentScansUptoRow.domain false Rows.segmentScansUptoRow.laid) (((Rows.OpenSpec.upto Rows.segmentScansSpec).at F).post enc Tryd.prog Tryd.f4 false true false false) := by
  obtain ⟨w0, h1, h2, h3, h4, h5, h6⟩ := start os
  refine returnsInHanded_of_row (C := Tryd.checked) (s := Rows.OpenSpec.upto Rows.segmentScansSpec) own started (by kernel_rfl) Tryd.func4
    (witness_row_at (enc := enc) (C := Tryd.checked) false w0 #[.slice none 0 0] h1 h2 h3 h4
      (OpenSpec.preRow_of_cond 8 (h6 H enc) (by kernel_rfl) (fun k hk => by cases hk; kernel_rfl) (by kernel_rfl) h5)) ?_
  intro W base args ds gs before hval hW _ hcond hsz hL _ _
  exact contract H enc W base args ds gs before hval hW hsz (hcond _ rfl) hL
theorem said : Rows.SegmentScansUptoSaid :=
  OpenClaim.holds_of_cond 4 Tryd.f4 rfl rfl rfl rfl rfl rfl rfl ⟨rfl, rfl, rfl, rfl, rfl⟩ rfl rfl rfl rfl rfl (by kernel_rfl) Tryd.func4 (by kernel_rfl)
    (of_decide_eq_true (by kernel_rfl)) (by unfold Func.isWrapper; first | (rw [if_pos (by decide +kernel)]; kernel_rfl) | (rw [if_neg (by decide +kernel)]; exact ⟨rfl, rfl⟩))
    (fun os started H enc _ F => by rw [OpenClaim.pre_eq_preRow]; exact lifted os started H enc F)
theorem plain (f : FuncId) (fn : Func) (hf : Tryd.pinned.checked.prog.funcNamed "daybook/daybooklaw14.SegmentScans" = some f) (hfn : Tryd.pinned.checked.prog.funcs[f]? = some fn) :
    false = Tryd.pinned.checked.prog.looks [] ∧ ∀ (j : Nat) t, fn.params[j]? = some t → Tryd.pinned.checked.prog.wantsStandIn t = false := by
  obtain rfl : f = 4 := Option.some.inj ((show Tryd.prog.funcNamed "daybook/daybooklaw14.SegmentScans" = some 4 by kernel_rfl).symm.trans hf) |>.symm
  obtain rfl : fn = Tryd.f4 := (Option.some.inj (Tryd.func4.symm.trans hfn)).symm
  refine ⟨by kernel_rfl, fun j t ht => ?_⟩
  rw [Tryd.params4] at ht
  have hm := Array.mem_of_getElem? ht
  have hall : ∀ t ∈ (#[22] : Array TypeId), Tryd.prog.wantsStandIn t = false := by
    intro t ht
    simp only [List.mem_toArray, List.mem_cons, List.not_mem_nil, or_false] at ht
    rcases ht with rfl <;> kernel_rfl
  exact hall t hm
theorem card : Rows.SegmentScansUptoCardSaid :=
  Claim7.holds_tied_plain_at .later [] _ _ _ _ said (fun _ h => by cases h) (by kernel_rfl) (fun _ h => by cases h) segmentScansUpto_row_tie rfl ⟨rfl, rfl⟩ (by kernel_rfl) rfl plain (by kernel_rfl)
end Go.Proofs.YtaegmeilhdbnnaaDoor.segmentScans
