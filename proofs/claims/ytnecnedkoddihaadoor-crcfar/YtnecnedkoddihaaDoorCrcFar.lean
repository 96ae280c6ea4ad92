/- For every two numbers and lengths: far over noughts in two steps is as in one, and it is one to one in its first number. No condition. -/
import Derived.Test.YtnecnedkoddihaaDoorCrcTie
import Derived.Test.YtnecnedkoddihaaDoorHead03
import Derived.Test.YtnecnedkoddihaaDoorComb
import Derived.SizedLaws
import Derived.ChangeOld
import Derived.Deep.QuietTactic
import Derived.BigQuiet
import Derived.Deep.RegionHeld
namespace Go.Proofs.YtnecnedkoddihaaDoor.crcFar
open Go.ChangeShapes Go.WideShapes Go.ChangeAt Go.RowKit
set_option linter.unusedVariables false
theorem wf_u32 (n : Int) (h : (Lit.int .u32 n).wf = true) : 0 ≤ n ∧ n < 4294967296 := by
  simp [Lit.wf, IntKind.min, IntKind.max, IntKind.bits, IntKind.signed] at h; omega
theorem mask61 (n : Int) : ∃ N : Nat, N < 2305843009213693952 ∧ bits .and .i64 n 2305843009213693951 = (N : Int) := by
  have h : (n % 18446744073709551616).toNat &&& 2305843009213693951 < 2305843009213693952 := Nat.lt_of_le_of_lt Nat.and_le_right (by omega)
  refine ⟨(n % 18446744073709551616).toNat &&& 2305843009213693951, h, ?_⟩
  rw [i64_and_raw, show ((2305843009213693951 : Int) % 18446744073709551616).toNat = 2305843009213693951 from rfl, wrap_i64]
  generalize (n % 18446744073709551616).toNat &&& 2305843009213693951 = P at h ⊢
  omega
theorem comb_to (a b n R : Nat) (x y z : Int) (w : World) (hR : Crcm.shN (8 * n) a ^^^ b = R) (hx : x = (a : Int)) (hy : y = (b : Int)) (hz : z = (n : Int)) (ha : a < 4294967296) (hb : b < 4294967296) (hn : n ≤ 9223372036854775807) (ht : Tab w) :
    Calls Tryd.prog 7 #[.int .u32 x, .int .u32 y, .int .i64 z] w fun e w' => e = .returned (.int .u32 (R : Int)) ∧ Below w.heap.size w w' := by
  subst hx hy hz hR
  exact comb_nat a b n w ha hb hn ht
set_option maxRecDepth 100000 in
set_option maxHeartbeats 2000000 in
theorem walk (a b n m : Int) (w : World) (wa : (Lit.int .u32 a).wf = true) (wb : (Lit.int .u32 b).wf = true) (wn : (Lit.int .i64 n).wf = true) (wm : (Lit.int .i64 m).wf = true) (ht : Tab w) :
    Calls Tryd.prog 4 #[.int .u32 a, .int .u32 b, .int .i64 n, .int .i64 m] w fun e w' => e = .returned (.bool true) ∧ Below w.heap.size w w' := by
  have ba : 0 ≤ a ∧ a < 4294967296 := wf_u32 a wa
  have bb : 0 ≤ b ∧ b < 4294967296 := wf_u32 b wb
  obtain ⟨A, rfl⟩ : ∃ A : Nat, a = (A : Int) := ⟨a.toNat, by omega⟩
  obtain ⟨B, rfl⟩ : ∃ B : Nat, b = (B : Int) := ⟨b.toNat, by omega⟩
  have HA : Hid (A < 4294967296) := by show A < 4294967296; omega
  have HB : Hid (B < 4294967296) := by show B < 4294967296; omega
  have HT : Hid (Tab w) := ht
  obtain ⟨N, hN, en⟩ := mask61 n
  obtain ⟨M, hM, em⟩ := mask61 m
  have hNI : (N : Int) < 2305843009213693952 := by omega
  have hMI : (M : Int) < 2305843009213693952 := by omega
  have HNM : Hid (N < 2305843009213693952 ∧ M < 2305843009213693952) := ⟨hN, hM⟩
  obtain ⟨F, hF⟩ : ∃ F, Crcm.shN (8 * (N + M)) A = F := ⟨_, rfl⟩
  obtain ⟨G, hG⟩ : ∃ G, Crcm.shN (8 * (N + M)) B = G := ⟨_, rfl⟩
  obtain ⟨H, hH⟩ : ∃ H, Crcm.shN (8 * N) A = H := ⟨_, rfl⟩
  have HF : Hid (Crcm.shN (8 * (N + M)) A ^^^ 0 = F) := by show _ = _; rw [Nat.xor_zero]; exact hF
  have HG : Hid (Crcm.shN (8 * (N + M)) B ^^^ 0 = G) := by show _ = _; rw [Nat.xor_zero]; exact hG
  have HH : Hid (Crcm.shN (8 * N) A ^^^ 0 = H) := by show _ = _; rw [Nat.xor_zero]; exact hH
  have HHB : Hid (Crcm.shN (8 * N) A ^^^ B = H ^^^ B) := by show _ = _; rw [hH]
  have HHM : Hid (Crcm.shN (8 * M) H ^^^ 0 = F) := by show _ = _; rw [Nat.xor_zero, ← hH, ← Crcm.shN_add, ← hF]; congr 1; omega
  have HHL : Hid (H < 4294967296) := by show H < 4294967296; rw [← hH]; exact Crcm.shN_lt _ _ HA.out
  have HAB : Hid (F = G → A = B) := by intro h; exact Crcm.shN_inj (8 * (N + M)) A B HA.out HB.out (by rw [hF, hG]; exact h)
  have HABe : Hid (A = B → F = G) := by intro h; rw [← hF, ← hG, h]
  have hx : bits .xor .u32 (H : Int) (B : Int) = ((H ^^^ B : Nat) : Int) := u32_xor_nat H B HHL.out HB.out
  obtain ⟨t, hd1, hd2⟩ : ∃ t : Bool, ((G : Int) == (F : Int)) = t ∧ ((A : Int) == (B : Int)) = t := by
    refine ⟨_, rfl, ?_⟩
    rw [Bool.eq_iff_iff, beq_iff_eq, beq_iff_eq]
    exact ⟨fun h => by have := HABe.out (by omega); omega, fun h => by have := HAB.out (by omega); omega⟩
  have T1 : Hid True := trivial
  have T2 : Hid True := trivial
  have T3 : Hid True := trivial
  have T4 : Hid True := trivial
  have T5 : Hid True := trivial
  clear ht wa wb wn wm ba bb hN hM hF hG hH
  cases t
  all_goals
    go_enter Tryd.func4, Tryd.ntmps4
    go_wp2_with (first
      | (go_at_call 6; refine (head03_any w HT.out).mono ?_; rintro e w1 ⟨rfl, hb1⟩; have HB1 : Hid (Below w.heap.size w w1) := hb1; clear hb1)
      | (go_at_call 7; clear T1; refine (comb_to A 0 (N + M) F _ _ _ _ HF.out rfl rfl (by omega) HA.out (by omega) (by have := HNM.out; omega) (HT.out.keep HB1.out)).mono ?_; rintro e w2 ⟨rfl, hb2⟩; have HB2 : Hid (Below w.heap.size w w2) := below_after HB1.out hb2; clear hb2)
      | (go_at_call 7; clear T2; refine (comb_to A 0 N H _ _ _ _ HH.out rfl rfl (by omega) HA.out (by omega) (by have := HNM.out; omega) (HT.out.keep HB2.out)).mono ?_; rintro e w3 ⟨rfl, hb3⟩; have HB3 : Hid (Below w.heap.size w w3) := below_after HB2.out hb3; clear hb3)
      | (go_at_call 7; clear T3; refine (comb_to H 0 M F _ _ _ _ HHM.out rfl rfl (by omega) HHL.out (by omega) (by have := HNM.out; omega) (HT.out.keep HB3.out)).mono ?_; rintro e w4 ⟨rfl, hb4⟩; have HB4 : Hid (Below w.heap.size w w4) := below_after HB3.out hb4; clear hb4)
      | (go_at_call 7; clear T4; refine (comb_to B 0 (N + M) G _ _ _ _ HG.out rfl rfl (by omega) HB.out (by omega) (by have := HNM.out; omega) (HT.out.keep HB4.out)).mono ?_; rintro e w5 ⟨rfl, hb5⟩; have HB5 : Hid (Below w.heap.size w w5) := below_after HB4.out hb5; clear hb5 hNI hMI en em)
      | (go_at_call 7; clear T5; refine (comb_to A B N (H ^^^ B) _ _ _ _ HHB.out rfl rfl (by omega) HA.out HB.out (by have := HNM.out; omega) (HT.out.keep HB5.out)).mono ?_; rintro e w6 ⟨rfl, hb6⟩; have HB6 : Hid (Below w.heap.size w w6) := below_after HB5.out hb6; clear hb6)
      | (go_at_call 7; refine (comb_to A 0 N H _ _ _ _ HH.out rfl rfl (by omega) HA.out (by omega) (by have := HNM.out; omega) (HT.out.keep HB6.out)).mono ?_; rintro e w7 ⟨rfl, hb7⟩; have HB7 : Hid (Below w.heap.size w w7) := below_after HB6.out hb7; clear hb7))
    go_ret
    exact ⟨rfl, HB7.out⟩
theorem own : ownKnob Tryd.prog.godebug = none := by kernel_rfl
theorem laidOut : laidOutB Tryd.prog = true := by kernel_rfl
set_option maxRecDepth 100000 in
theorem contract (H : Type) (enc : TypeId × Value → H) (W : World) (base : Nat) (args : Array Value) (ds gs : List (DataW H)) (before : List MemPlace)
    (hval : ∀ (j : Nat) t v, Tryd.f4.params[j]? = some t → args[j]? = some v → Value.okWide Tryd.prog W .any base t v)
    (hW : DataW.Whole enc Tryd.prog Tryd.f4.params.toList Rows.crcFarSpec.vars false W args.toList ds gs before)
    (hsz : (DataW.weightsEach Tryd.prog (Tryd.f4.params.toList ++ Rows.crcFarSpec.plain.varTypes Tryd.prog) (ds ++ gs)).all (· ≤ reachBytes) = true) (hL : laidMetH Tryd.prog [("daybook/crc.halves", Rows.laid_daybook_crc_halves)] W) :
    Calls Tryd.prog 4 args W fun e W' => ∃ v, e = .returned v ∧ Rows.crcFarSpec.post enc Tryd.prog Tryd.f4 false true false false W args v W' := by
  have hW' := hW
  obtain ⟨p, q, hA0, hV, rfl, hfz, hnd⟩ := hW
  have hA : DataW.TrodAll enc Tryd.prog W 0 (fun _ => true) true Tryd.f4.params.toList args.toList ds p := hA0
  rw [Tryd.params4] at hA hval hsz
  obtain ⟨v0, vs0, d0, ds0, p0, q0, hargs, rfl, rfl, h0, r0⟩ := trodAll_cons hA
  obtain ⟨v1, vs1, d1, ds1, p1, q1, rfl, rfl, rfl, h1, r1⟩ := trodAll_cons r0
  obtain ⟨v2, vs2, d2, ds2, p2, q2, rfl, rfl, rfl, h2, r2⟩ := trodAll_cons r1
  obtain ⟨v3, vs3, d3, ds3, p3, q3, rfl, rfl, rfl, h3, r3⟩ := trodAll_cons r2
  obtain ⟨rfl, rfl, rfl⟩ := trodAll_nil r3
  obtain rfl : args = #[v0, v1, v2, v3] := by cases args; simp_all
  obtain ⟨rfl, rfl⟩ := trodVars_none hV
  obtain ⟨a0, rfl, rfl, rfl, w0⟩ := open_int Tryd.underlying23 (hval 0 23 v0 rfl rfl) h0
  obtain ⟨a1, rfl, rfl, rfl, w1⟩ := open_int Tryd.underlying23 (hval 1 23 v1 rfl rfl) h1
  obtain ⟨a2, rfl, rfl, rfl, w2⟩ := open_int Tryd.underlying3 (hval 2 3 v2 rfl rfl) h2
  obtain ⟨a3, rfl, rfl, rfl, w3⟩ := open_int Tryd.underlying3 (hval 3 3 v3 rfl rfl) h3
  clear hA0
  refine (walk a0 a1 a2 a3 W w0 w1 w2 w3 (tab_of hL)).mono fun e W' ⟨he, bel⟩ => ?_
  subst he
  exact ⟨_, rfl, _, _, _, [], _, [], hW', trodAll_mk1 (shut_bool Tryd.underlying4 _), (trodAll_cons_mk (shut_int Tryd.underlying23 w0) (trodAll_cons_mk (shut_int Tryd.underlying23 w1) (trodAll_cons_mk (shut_int Tryd.underlying3 w2) (trodAll_cons_mk (shut_int Tryd.underlying3 w3) trodAll_mk0)))), rfl, bel.frame _, fun h => by cases h⟩
set_option maxRecDepth 100000 in
theorem start (os : Os) : ∃ w0 : World, w0.os = os ∧ (w0.forCall (fun _ _ => 0) ⟨#[], #[.int .u32 0, .int .u32 0, .int .i64 0, .int .i64 0], []⟩).variablesB Tryd.prog = true ∧
    ((w0.forCall (fun _ _ => 0) ⟨#[], #[.int .u32 0, .int .u32 0, .int .i64 0, .int .i64 0], []⟩).heap.toList.drop Tryd.prog.globals.size).take ((begin Tryd.prog (fun _ _ => 0) default).world.heap.size - Tryd.prog.globals.size) = (begin Tryd.prog (fun _ _ => 0) default).world.heap.toList.drop Tryd.prog.globals.size ∧
    Input.okWideB Tryd.prog (w0.forCall (fun _ _ => 0) ⟨#[], #[.int .u32 0, .int .u32 0, .int .i64 0, .int .i64 0], []⟩) 4 ⟨#[], #[.int .u32 0, .int .u32 0, .int .i64 0, .int .i64 0], []⟩ = true ∧
    laidMet Tryd.prog Rows.crcFarRow.laid (w0.forCall (fun _ _ => 0) ⟨#[], #[.int .u32 0, .int .u32 0, .int .i64 0, .int .i64 0], []⟩).memory ∧
    ∀ (H : Type) (enc : TypeId × Value → H), DataW.whole enc Tryd.prog (w0.forCall (fun _ _ => 0) ⟨#[], #[.int .u32 0, .int .u32 0, .int .i64 0, .int .i64 0], []⟩).memory Tryd.f4.params.toList Rows.crcFarSpec.vars false (#[.int .u32 0, .int .u32 0, .int .i64 0, .int .i64 0] : Array Value).toList 8 = some ([.lit (.int .u32 0), .lit (.int .u32 0), .lit (.int .i64 0), .lit (.int .i64 0)], [], []) :=
  ⟨{ World.holding Tryd.prog os ⟨#[], #[], []⟩ with heap := (World.holding Tryd.prog os ⟨#[], #[], []⟩).heap.modify 0 fun
      | .cells _ t frozen => .cells #[.int .u32 0, .int .u32 498536548, .int .u32 997073096, .int .u32 651767980, .int .u32 1994146192, .int .u32 1802195444, .int .u32 1303535960, .int .u32 1342533948, .int .u32 3988292384, .int .u32 4027552580, .int .u32 3604390888, .int .u32 3412177804, .int .u32 2607071920, .int .u32 2262029012, .int .u32 2685067896, .int .u32 3183342108] t frozen
      | o => o }, rfl, by kernel_rfl, by kernel_rfl, by kernel_rfl, laidMet_of_run' 8 (by kernel_rfl) (by kernel_rfl), fun _ _ => by kernel_rfl⟩
set_option maxRecDepth 100000 in
theorem lifted (os : Os) (started : os.Started) (H : Type) (enc : TypeId × Value → H) (F : Stop.Interp) :
    ReturnsInHanded {} Tryd.checked os 4 .any ((OpenSpec.ofChange Rows.crcFarSpec).preRow enc Tryd.prog Tryd.f4 Rows.crcFarRow.domain false Rows.crcFarRow.laid) (((OpenSpec.ofChange Rows.crcFarSpec).at F).post enc Tryd.prog Tryd.f4 false true false false) := by
  obtain ⟨w0, h1, h2, h3, h4, h5, h6⟩ := start os
  refine returnsInHanded_of_row (C := Tryd.checked) (s := OpenSpec.ofChange Rows.crcFarSpec) own started (by kernel_rfl) Tryd.func4
    (witness_row_at (enc := enc) (C := Tryd.checked) false w0 #[.int .u32 0, .int .u32 0, .int .i64 0, .int .i64 0] h1 h2 h3 h4
      (OpenSpec.preRow_of_cond 8 (h6 H enc) (by kernel_rfl) (fun k hk => by cases hk) (by kernel_rfl) h5)) ?_
  intro W base args ds gs before hval hW _ hcond hsz hL _ _
  exact contract H enc W base args ds gs before hval hW hsz hL
theorem said : Rows.CrcFarSaid :=
  OpenClaim.holds_of_cond 4 Tryd.f4 rfl rfl rfl rfl rfl rfl rfl ⟨rfl, rfl, rfl, rfl, rfl⟩ rfl rfl rfl rfl rfl (by kernel_rfl) Tryd.func4 (by kernel_rfl)
    (of_decide_eq_true (by kernel_rfl)) (by unfold Func.isWrapper; first | (rw [if_pos (by decide +kernel)]; kernel_rfl) | (rw [if_neg (by decide +kernel)]; exact ⟨rfl, rfl⟩))
    (fun os started H enc _ F => by rw [OpenClaim.pre_eq_preRow]; exact lifted os started H enc F)
theorem plain (f : FuncId) (fn : Func) (hf : Tryd.pinned.checked.prog.funcNamed "daybook/daybooklaw03.CrcFar" = some f) (hfn : Tryd.pinned.checked.prog.funcs[f]? = some fn) :
    false = Tryd.pinned.checked.prog.looks [] ∧ ∀ (j : Nat) t, fn.params[j]? = some t → Tryd.pinned.checked.prog.wantsStandIn t = false := by
  obtain rfl : f = 4 := Option.some.inj ((show Tryd.prog.funcNamed "daybook/daybooklaw03.CrcFar" = some 4 by kernel_rfl).symm.trans hf) |>.symm
  obtain rfl : fn = Tryd.f4 := (Option.some.inj (Tryd.func4.symm.trans hfn)).symm
  refine ⟨by kernel_rfl, fun j t ht => ?_⟩
  rw [Tryd.params4] at ht
  have hm := Array.mem_of_getElem? ht
  have hall : ∀ t ∈ (#[23, 23, 3, 3] : Array TypeId), Tryd.prog.wantsStandIn t = false := by
    intro t ht
    simp only [List.mem_toArray, List.mem_cons, List.not_mem_nil, or_false] at ht
    rcases ht with rfl | rfl | rfl | rfl <;> kernel_rfl
  exact hall t hm
theorem card : Rows.CrcFarCardSaid :=
  Claim7.holds_tied_plain_at .later [] _ _ _ _ said (fun _ h => by cases h) (by kernel_rfl) (fun _ h => by cases h) crcFar_row_tie rfl ⟨rfl, rfl⟩ (by kernel_rfl) rfl plain (by kernel_rfl)
end Go.Proofs.YtnecnedkoddihaaDoor.crcFar
