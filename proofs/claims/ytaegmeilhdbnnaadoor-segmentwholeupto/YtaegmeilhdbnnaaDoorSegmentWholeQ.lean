/- For all numbers and bodies, every stride and every event asked for: the sealed segment's Scan, Closing and Seek tell what was laid. Condition: the arguments hold together at most 1048576 values and letters (the second form). -/
import Derived.Test.YtaegmeilhdbnnaaDoorJ00
import Derived.Test.YtaegmeilhdbnnaaDoorJ28
import Derived.Test.YtaegmeilhdbnnaaDoorJ18
import Derived.Deep.CondSized
import Derived.SizedLaws
import Derived.ChangeOld
import Derived.JoinedCond
import Derived.Deep.Matrix
namespace Go.Proofs.YtaegmeilhdbnnaaDoor.segmentWhole
open Go.ChangeShapes Go.WideShapes Go.ChangeAt Go.RowKit
set_option linter.unusedVariables false
set_option maxRecDepth 20000 in
set_option maxHeartbeats 4000000 in
theorem walk (num first : Int) (n : Nat) (a : Option Addr) (cap : Nat) (A : Nat → Option Addr) (L : Nat → List Nat) (C : Nat → Nat) (st wh : Int) (w : World) (w0 : (Lit.int .i64 num).wf = true) (w1 : (Lit.int .i64 first).wf = true) (hb : Pieces w a n A L C) (w3 : (Lit.int .i64 st).wf = true) (w4 : (Lit.int .i64 wh).wf = true) (hsum : n + tot L n ≤ 1048576) (ht : Tab w) :
    Calls Tryd.prog 7 #[.int .i64 num, .int .i64 first, .slice a n cap, .int .i64 st, .int .i64 wh] w fun e w' => e = .returned (.bool true) ∧ Below w.heap.size w w' := by
  have HT : Hid (Tab w) := ht
  by_cases hfew : FewP num first n L
  · by_cases hs1 : 1 ≤ st
    · by_cases hs2 : st ≤ 64
      · obtain ⟨⟨h1, h2, h3, h4, h5, h6⟩, h7⟩ := hfew
        obtain ⟨x, rfl⟩ := Int.eq_ofNat_of_zero_le (show 0 ≤ num by omega)
        obtain ⟨y, rfl⟩ := Int.eq_ofNat_of_zero_le (show 0 ≤ first by omega)
        obtain ⟨s, rfl⟩ := Int.eq_ofNat_of_zero_le (show 0 ≤ st by omega)
        have HP : Hid (Pieces w a n A L C ∧ EvB n L ∧ Tab w ∧ FewP (x : Int) (y : Int) n L) := ⟨hb, fun i hi => ⟨(hb.2 i hi).1.mem, h7 i hi⟩, ht, ⟨⟨h1, h2, h3, h4, h5, h6⟩, h7⟩⟩
        exact whole_any x y n a cap A L C s wh w HP (by omega) (by omega) (by omega) (by omega) h5 h6 (by omega) (by omega)
      · have HFW : Hid (∀ w1, Below w.heap.size w w1 → Calls Tryd.prog 26 #[.int .i64 num, .int .i64 first, .slice a n cap] w1 fun e w' => e = .returned (.bool true) ∧ w1 = w') := fun w1 hb1 =>
          (few_any num first n a cap A L C w1 (hb.keep hb1) (by omega) (fun i hi => by have := tot_one L hi; omega)).mono (by
            rintro e w' ⟨⟨_, h1⟩ | ⟨h1, _⟩, h2⟩
            · exact ⟨h1, h2⟩
            · exact absurd hfew h1)
        clear hfew hb ht hsum w0 w1 w3 w4
        go_enter Tryd.func7, Tryd.ntmps7
        go_wp2_with (first
          | (go_at_call 9; refine (head14_any w HT.out).mono ?_; rintro e w1 ⟨rfl, hb1⟩; have HB1 : Hid (Below w.heap.size w w1) := hb1; clear hb1)
          | (go_at_call 26; refine (HFW.out w1 HB1.out).mono ?_; rintro e w9 ⟨rfl, rfl⟩))
        go_ret
        exact ⟨rfl, HB1.out⟩
    · have HFW : Hid (∀ w1, Below w.heap.size w w1 → Calls Tryd.prog 26 #[.int .i64 num, .int .i64 first, .slice a n cap] w1 fun e w' => e = .returned (.bool true) ∧ w1 = w') := fun w1 hb1 =>
        (few_any num first n a cap A L C w1 (hb.keep hb1) (by omega) (fun i hi => by have := tot_one L hi; omega)).mono (by
          rintro e w' ⟨⟨_, h1⟩ | ⟨h1, _⟩, h2⟩
          · exact ⟨h1, h2⟩
          · exact absurd hfew h1)
      clear hfew hb ht hsum w0 w1 w3 w4
      go_enter Tryd.func7, Tryd.ntmps7
      go_wp2_with (first
        | (go_at_call 9; refine (head14_any w HT.out).mono ?_; rintro e w1 ⟨rfl, hb1⟩; have HB1 : Hid (Below w.heap.size w w1) := hb1; clear hb1)
        | (go_at_call 26; refine (HFW.out w1 HB1.out).mono ?_; rintro e w9 ⟨rfl, rfl⟩))
      go_ret
      exact ⟨rfl, HB1.out⟩
  · have HFW : Hid (∀ w1, Below w.heap.size w w1 → Calls Tryd.prog 26 #[.int .i64 num, .int .i64 first, .slice a n cap] w1 fun e w' => e = .returned (.bool false) ∧ w1 = w') := fun w1 hb1 =>
      (few_any num first n a cap A L C w1 (hb.keep hb1) (by omega) (fun i hi => by have := tot_one L hi; omega)).mono (by
        rintro e w' ⟨⟨h1, _⟩ | ⟨_, h1⟩, h2⟩
        · exact absurd h1 hfew
        · exact ⟨h1, h2⟩)
    clear hfew hb ht hsum w0 w1 w3 w4
    go_enter Tryd.func7, Tryd.ntmps7
    go_wp2_with (first
      | (go_at_call 9; refine (head14_any w HT.out).mono ?_; rintro e w1 ⟨rfl, hb1⟩; have HB1 : Hid (Below w.heap.size w w1) := hb1; clear hb1)
      | (go_at_call 26; refine (HFW.out w1 HB1.out).mono ?_; rintro e w9 ⟨rfl, rfl⟩))
    go_ret
    exact ⟨rfl, HB1.out⟩
theorem own : ownKnob Tryd.prog.godebug = none := by kernel_rfl
theorem laidOut : laidOutB Tryd.prog = true := by kernel_rfl
set_option maxRecDepth 100000 in
theorem contract (H : Type) (enc : TypeId × Value → H) (W : World) (base : Nat) (args : Array Value) (ds gs : List (DataW H)) (before : List MemPlace)
    (hval : ∀ (j : Nat) t v, Tryd.f7.params[j]? = some t → args[j]? = some v → Value.okWide Tryd.prog W .any base t v)
    (hW : DataW.Whole enc Tryd.prog Tryd.f7.params.toList Rows.segmentWholeSpec.vars false W args.toList ds gs before)
    (hsz : (DataW.weightsEach Tryd.prog (Tryd.f7.params.toList ++ Rows.segmentWholeSpec.plain.varTypes Tryd.prog) (ds ++ gs)).all (· ≤ reachBytes) = true) (hk : Rows.uptoSmall H (ds ++ gs) = true) (hL : laidMetH Tryd.prog ([("daybook/crc.halves", Rows.laid_daybook_crc_halves)]) W) :
    Calls Tryd.prog 7 args W fun e W' => ∃ v, e = .returned v ∧ Rows.segmentWholeSpec.post enc Tryd.prog Tryd.f7 false true false false W args v W' := by
  have hW' := hW
  obtain ⟨p, q, hA0, hV, rfl, hfz, hnd⟩ := hW
  have hA : DataW.TrodAll enc Tryd.prog W 0 (fun _ => true) true Tryd.f7.params.toList args.toList ds p := hA0
  rw [Tryd.params7] at hA hval hsz
  obtain ⟨v0, vs0, d0, ds0, p0, q0, hargs, rfl, rfl, h0, r0⟩ := trodAll_cons hA
  obtain ⟨v1, vs1, d1, ds1, p1, q1, rfl, rfl, rfl, h1, r1⟩ := trodAll_cons r0
  obtain ⟨v2, vs2, d2, ds2, p2, q2, rfl, rfl, rfl, h2, r2⟩ := trodAll_cons r1
  obtain ⟨v3, vs3, d3, ds3, p3, q3, rfl, rfl, rfl, h3, r3⟩ := trodAll_cons r2
  obtain ⟨v4, vs4, d4, ds4, p4, q4, rfl, rfl, rfl, h4, r4⟩ := trodAll_cons r3
  obtain ⟨rfl, rfl, rfl⟩ := trodAll_nil r4
  obtain rfl : args = #[v0, v1, v2, v3, v4] := by cases args; simp_all
  obtain ⟨rfl, rfl⟩ := trodVars_none hV
  obtain ⟨a0, rfl, rfl, rfl, w0⟩ := open_int Tryd.underlying3 (hval 0 3 v0 rfl rfl) h0
  obtain ⟨a1, rfl, rfl, rfl, w1⟩ := open_int Tryd.underlying3 (hval 1 3 v1 rfl rfl) h1
  obtain ⟨a2, len2, cap2, rfl⟩ := okWide_slice Tryd.underlying53 (hval 2 53 v2 rfl rfl)
  have k2 := h2
  have lt2 : ∀ x ∈ p2, x.block < W.heap.size := by obtain ⟨m, hm⟩ := k2; exact DataW.trod_lt m _ _ _ hm
  obtain ⟨A2, L2, C2, w2, u2⟩ : ∃ (A : Nat → Option Addr) (L : Nat → List Nat) (C : Nat → Nat), Pieces W a2 len2 A L C ∧ len2 + tot L len2 + 1 ≤ Rows.uptoBulk d2 := by
    obtain ⟨fuel, hf⟩ := h2
    rcases Go.Deep.open_int_rows Tryd.underlying53 Tryd.underlying22 Tryd.underlying5 (by kernel_rfl) (by kernel_rfl) hf with ⟨hcs, hx⟩ | ⟨x, l, c, A, L, C, Z, hcs, _, hl, hm, hx, hr⟩
    · simp [Value.cells] at hcs
      obtain ⟨rfl, rfl, rfl⟩ := hcs
      obtain ⟨rfl, rfl⟩ := Prod.mk.inj hx
      exact ⟨fun _ => none, fun _ => [], fun _ => 0, ⟨.inl rfl, fun r hr => by omega⟩, by simp [Rows.uptoBulk, tot]⟩
    · simp [Value.cells] at hcs
      obtain ⟨rfl, rfl, rfl⟩ := hcs
      obtain ⟨ll, h1, h2⟩ := pieces_of x len2 cap2 A L C Z hl hr
      refine ⟨A, ll, C, h2, ?_⟩
      have hd : d2 = _ := (Prod.mk.inj hx).1
      rw [hd]
      have hbr := bulk_range (H := H) len2 (fun r => Go.Deep.intRow .u8 (A r) (L r) (Z r)) ll (fun r hrl => by rw [h1 r hrl]; obtain ⟨_, q2, _, q4, _, q6, _⟩ := hr r (by omega); exact bulk_row (A r) (L r) (C r) (Z r) q4 q2 q6)
      simp only [Rows.uptoBulk]
      omega
  obtain ⟨a3, rfl, rfl, rfl, w3⟩ := open_int Tryd.underlying3 (hval 3 3 v3 rfl rfl) h3
  obtain ⟨a4, rfl, rfl, rfl, w4⟩ := open_int Tryd.underlying3 (hval 4 3 v4 rfl rfl) h4
  have hbk := bulks.bound hk
  simp only [List.append_nil, Rows.uptoBulkAll] at hbk
  have hsum : len2 + tot L2 len2 ≤ 1048576 := by omega
  clear hA0
  refine (walk a0 a1 len2 a2 cap2 A2 L2 C2 a3 a4 W w0 w1 w2 w3 w4 hsum (tab_of hL)).mono fun e W' ⟨he, bel⟩ => ?_
  subst he
  exact ⟨_, rfl, _, _, _, [], _, [], hW', trodAll_mk1 (shut_bool Tryd.underlying4 _), (trodAll_cons_mk (shut_int Tryd.underlying3 w0) (trodAll_cons_mk (shut_int Tryd.underlying3 w1) (trodAll_cons_mk (Below.trod laidOut (by kernel_rfl) (of_decide_eq_true (by kernel_rfl)) k2 bel lt2) (trodAll_cons_mk (shut_int Tryd.underlying3 w3) (trodAll_cons_mk (shut_int Tryd.underlying3 w4) trodAll_mk0))))), rfl, bel.frame _, fun h => by cases h⟩
set_option maxRecDepth 100000 in
theorem start (os : Os) : ∃ w0 : World, w0.os = os ∧ (w0.forCall (fun _ _ => 0) ⟨#[], #[.int .i64 0, .int .i64 0, .slice none 0 0, .int .i64 0, .int .i64 0], []⟩).variablesB Tryd.prog = true ∧
    ((w0.forCall (fun _ _ => 0) ⟨#[], #[.int .i64 0, .int .i64 0, .slice none 0 0, .int .i64 0, .int .i64 0], []⟩).heap.toList.drop Tryd.prog.globals.size).take ((begin Tryd.prog (fun _ _ => 0) default).world.heap.size - Tryd.prog.globals.size) = (begin Tryd.prog (fun _ _ => 0) default).world.heap.toList.drop Tryd.prog.globals.size ∧
    Input.okWideB Tryd.prog (w0.forCall (fun _ _ => 0) ⟨#[], #[.int .i64 0, .int .i64 0, .slice none 0 0, .int .i64 0, .int .i64 0], []⟩) 7 ⟨#[], #[.int .i64 0, .int .i64 0, .slice none 0 0, .int .i64 0, .int .i64 0], []⟩ = true ∧
    laidMet Tryd.prog Rows.segmentWholeUptoRow.laid (w0.forCall (fun _ _ => 0) ⟨#[], #[.int .i64 0, .int .i64 0, .slice none 0 0, .int .i64 0, .int .i64 0], []⟩).memory ∧
    ∀ (H : Type) (enc : TypeId × Value → H), DataW.whole enc Tryd.prog (w0.forCall (fun _ _ => 0) ⟨#[], #[.int .i64 0, .int .i64 0, .slice none 0 0, .int .i64 0, .int .i64 0], []⟩).memory Tryd.f7.params.toList Rows.segmentWholeSpec.vars false (#[.int .i64 0, .int .i64 0, .slice none 0 0, .int .i64 0, .int .i64 0] : Array Value).toList 8 = some ([.lit (.int .i64 0), .lit (.int .i64 0), .nil, .lit (.int .i64 0), .lit (.int .i64 0)], [], []) :=
  ⟨{ World.holding Tryd.prog os ⟨#[], #[], []⟩ with heap := (World.holding Tryd.prog os ⟨#[], #[], []⟩).heap.modify 0 fun
      | .cells _ t frozen => .cells #[.int .u32 0, .int .u32 498536548, .int .u32 997073096, .int .u32 651767980, .int .u32 1994146192, .int .u32 1802195444, .int .u32 1303535960, .int .u32 1342533948, .int .u32 3988292384, .int .u32 4027552580, .int .u32 3604390888, .int .u32 3412177804, .int .u32 2607071920, .int .u32 2262029012, .int .u32 2685067896, .int .u32 3183342108] t frozen
      | o => o }, rfl, by kernel_rfl, by kernel_rfl, by kernel_rfl, laidMet_of_run' 8 (by kernel_rfl) (by kernel_rfl), fun _ _ => by kernel_rfl⟩
set_option maxRecDepth 100000 in
theorem lifted (os : Os) (started : os.Started) (H : Type) (enc : TypeId × Value → H) (F : Stop.Interp) :
    ReturnsInHanded {} Tryd.checked os 7 .any ((Rows.OpenSpec.upto Rows.segmentWholeSpec).preRow enc Tryd.prog Tryd.f7 Rows.segmentWholeUptoRow.domain false Rows.segmentWholeUptoRow.laid) (((Rows.OpenSpec.upto Rows.segmentWholeSpec).at F).post enc Tryd.prog Tryd.f7 false true false false) := by
  obtain ⟨w0, h1, h2, h3, h4, h5, h6⟩ := start os
  refine returnsInHanded_of_row (C := Tryd.checked) (s := Rows.OpenSpec.upto Rows.segmentWholeSpec) own started (by kernel_rfl) Tryd.func7
    (witness_row_at (enc := enc) (C := Tryd.checked) false w0 #[.int .i64 0, .int .i64 0, .slice none 0 0, .int .i64 0, .int .i64 0] h1 h2 h3 h4
      (OpenSpec.preRow_of_cond 8 (h6 H enc) (by kernel_rfl) (fun k hk => by cases hk; kernel_rfl) (by kernel_rfl) h5)) ?_
  intro W base args ds gs before hval hW _ hcond hsz hL _ _
  exact contract H enc W base args ds gs before hval hW hsz (hcond _ rfl) hL
theorem said : Rows.SegmentWholeUptoSaid :=
  OpenClaim.holds_of_cond 7 Tryd.f7 rfl rfl rfl rfl rfl rfl rfl ⟨rfl, rfl, rfl, rfl, rfl⟩ rfl rfl rfl rfl rfl (by kernel_rfl) Tryd.func7 (by kernel_rfl)
    (of_decide_eq_true (by kernel_rfl)) (by unfold Func.isWrapper; first | (rw [if_pos (by decide +kernel)]; kernel_rfl) | (rw [if_neg (by decide +kernel)]; exact ⟨rfl, rfl⟩))
    (fun os started H enc _ F => by rw [OpenClaim.pre_eq_preRow]; exact lifted os started H enc F)
theorem plain (f : FuncId) (fn : Func) (hf : Tryd.pinned.checked.prog.funcNamed "daybook/daybooklaw14.SegmentWhole" = some f) (hfn : Tryd.pinned.checked.prog.funcs[f]? = some fn) :
    false = Tryd.pinned.checked.prog.looks [] ∧ ∀ (j : Nat) t, fn.params[j]? = some t → Tryd.pinned.checked.prog.wantsStandIn t = false := by
  obtain rfl : f = 7 := Option.some.inj ((show Tryd.prog.funcNamed "daybook/daybooklaw14.SegmentWhole" = some 7 by kernel_rfl).symm.trans hf) |>.symm
  obtain rfl : fn = Tryd.f7 := (Option.some.inj (Tryd.func7.symm.trans hfn)).symm
  refine ⟨by kernel_rfl, fun j t ht => ?_⟩
  rw [Tryd.params7] at ht
  have hm := Array.mem_of_getElem? ht
  have hall : ∀ t ∈ (#[3, 3, 53, 3, 3] : Array TypeId), Tryd.prog.wantsStandIn t = false := by
    intro t ht
    simp only [List.mem_toArray, List.mem_cons, List.not_mem_nil, or_false] at ht
    rcases ht with rfl | rfl | rfl | rfl | rfl <;> kernel_rfl
  exact hall t hm
theorem card : Rows.SegmentWholeUptoCardSaid :=
  Claim7.holds_tied_plain_at .later [] _ _ _ _ said (fun _ h => by cases h) (by kernel_rfl) (fun _ h => by cases h) segmentWholeUpto_row_tie rfl ⟨rfl, rfl⟩ (by kernel_rfl) rfl plain (by kernel_rfl)
end Go.Proofs.YtaegmeilhdbnnaaDoor.segmentWhole
