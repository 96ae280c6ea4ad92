/- Valid, Due and Empty are the document's: for every state and every number. -/
import Derived.Test.YtmjppeljpifjpaaGreatM39
import Derived.Test.YtmjppeljpifjpaaGreatK41
import Derived.Test.YtmjppeljpifjpaaGreatM61
import Derived.SizedLaws
import Derived.ChangeOld
namespace Go.Proofs.YtmjppeljpifjpaaGreat.orderValid
open Go.ChangeShapes Go.WideShapes Go.ChangeAt Go.RowKit
set_option linter.unusedVariables false
set_option maxRecDepth 20000 in
set_option maxHeartbeats 4000000 in
theorem walk (s : St) (a : Option Addr) (n cap : Nat) (id : Int) (w : World) (hn : s.lines.length = n) (hl : Lns w a s.lines) (hc : n ≤ cap) (hm : n * 32 ≤ 140737488351232) (hid : (Lit.int .i64 id).wf = true) :
    Calls Tryz.prog 3 #[.agg (stA s (.slice a n cap)), .int .i64 id] w fun r w' => r = .returned (.bool true) ∧ Below w.heap.size w w' := by
  have HN : Hid (s.lines.length = n) := hn
  have hlm : n ≤ maxLen := by unfold maxLen; omega
  have HC0 : Hid (StC w w.heap.size s a n cap (w.alloc (.cells (stA s (.slice a n cap)) 25))) := StC.new w s a n cap hl
  have T1 : Hid True := trivial
  have T2 : Hid True := trivial
  have T3 : Hid True := trivial
  have T4 : Hid True := trivial
  have T5 : Hid True := trivial
  cases hv : vldB s with
  | false =>
    have HV : Hid (vldB s = false) := hv
    clear hn hl hv hid
    go_enter Tryz.func3, Tryz.ntmps3
    go_wp2_with (first
      | (go_at_call 13; refine (head08_any _).mono ?_; rintro _ x1 ⟨rfl, hb1⟩; have HC1 : Hid (StC w w.heap.size s a n cap x1) := StC.keep HC0.out hb1; clear hb1)
      | ((with_reducible refine guard_load 25 ?_); clear T1; refine wpList_load_st rfl _ rfl HC1.out.1 rfl ?_)
      | (go_at_call 14; refine (scopy_any s a n cap _ HN.out HC1.out.2.1 hm).mono ?_; rintro _ x2 ⟨v2, rfl, ho2, hb2⟩; obtain ⟨a2, c2, hv2, _, _, hl2, _⟩ := ho2.shape; simp only [HN.out] at hv2; subst hv2; have HL2 : Hid (Lns x2 a2 s.lines) := hl2; have HC2 : Hid (StC w w.heap.size s a n cap x2) := StC.keep HC1.out hb2; clear hb2 ho2 hl2)
      | ((with_reducible refine guard_store 25 ?_); refine wpList_store_st (s := zeroS) (s2 := s) (a2 := a2) (n2 := n) (c2 := c2) rfl _ _ rfl (StAt.new x2 zeroS (.slice none 0 0)) rfl rfl ?_; intro x3 z1 z2 z3 z4; have hu := (z2 _ _ ((Below.refl x2.heap.size x2).alloc (Nat.le_refl _) _) (Nat.le_refl _)); have HC3 : Hid (StC w w.heap.size s a n cap x3) := StC.keep HC2.out hu; have HD3 : Hid (StC w x2.heap.size s a2 n c2 x3) := ⟨z1, HL2.out.keep hu, below_next HC2.out.2.2 hu⟩; clear z1 z2 z3 z4 hu)
      | ((with_reducible refine guard_load 25 ?_); clear T2; refine wpList_load_st rfl _ rfl HC3.out.1 rfl ?_)
      | (go_at_call 15; refine (rvalid_any s a n cap _ HN.out HC3.out.2.1 hlm).mono ?_; rw [HV.out]; rintro _ x4 ⟨rfl, hb4⟩; have HC4 : Hid (StC w w.heap.size s a n cap x4) := StC.keep HC3.out hb4; have HD4 : Hid (StC w x2.heap.size s a2 n c2 x4) := StC.keep HD3.out hb4; clear hb4)
      | ((with_reducible refine guard_load 25 ?_); clear T3; refine wpList_load_st rfl _ rfl HD4.out.1 rfl ?_)
      | (go_at_call 16; refine (odue_any s a2 n c2 _ HN.out HD4.out.2.1 hlm).mono ?_; rw [HV.out, if_neg (by decide)]; rintro _ x5 ⟨rfl, hb5⟩; have HC5 : Hid (StC w w.heap.size s a n cap x5) := StC.keep HC4.out hb5; have HD5 : Hid (StC w x2.heap.size s a2 n c2 x5) := StC.keep HD4.out hb5; clear hb5)
      | ((with_reducible refine guard_load 25 ?_); clear T4; refine wpList_load_st rfl _ rfl HD5.out.1 rfl ?_)
      | (go_at_call 17; refine (valid_st s a2 n c2 _ HN.out HD5.out.2.1 hlm).mono ?_; rw [HV.out]; rintro _ x6 ⟨rfl, hb6⟩; have HC6 : Hid (StC w w.heap.size s a n cap x6) := StC.keep HC5.out hb6; have HD6 : Hid (StC w x2.heap.size s a2 n c2 x6) := StC.keep HD5.out hb6; clear hb6)
      | ((with_reducible refine guard_loadg 25 ?_); first | (clear T5; refine wpList_load_stg rfl _ rfl HD6.out.1 rfl ?_) | refine wpList_load_stg rfl _ rfl HC6.out.1 rfl ?_)
      | (go_at_call 20; refine (empty_any id _).mono ?_; rintro _ x8 ⟨rfl, hb8⟩; have HC8 : Hid (StC w w.heap.size s a n cap x8) := StC.keep HC7.out hb8; clear hb8)
      | (go_at_call 18; have HC8b : Hid (StC w w.heap.size s a n cap x8) := HC8; refine (ssame_yes (empS id) none none 0 0 0 _ rfl (.inl rfl) (.inl rfl) (by decide)).mono ?_; rintro _ x9 ⟨rfl, hb9⟩; have HC9 : Hid (StC w w.heap.size s a n cap x9) := StC.keep HC8.out hb9; clear hb9)
      | (go_at_call 18; refine (ssame_yes s a2 a n c2 cap _ HN.out HD6.out.2.1 HC6.out.2.1 hlm).mono ?_; rintro _ x7 ⟨rfl, hb7⟩; have HC7 : Hid (StC w w.heap.size s a n cap x7) := StC.keep HC6.out hb7; clear hb7))
    go_ret
    exact ⟨rfl, HC9.out.2.2⟩
  | true =>
    have HV : Hid (vldB s = true) := hv
    have HDU : Hid (linesB s.lines = true ∧ 0 ≤ s.tax ∧ s.tax ≤ 5000) := by have h := vld_due hv; exact ⟨h.1, h.2.1, h.2.2.1⟩
    obtain ⟨d, hd⟩ : ∃ d, dueS s = d := ⟨_, rfl⟩
    have HDD : Hid (dueS s = d) := hd
    have hdd : (d != d) = false := by simp
    clear hn hl hv hid hd
    go_enter Tryz.func3, Tryz.ntmps3
    go_wp2_with (first
      | (go_at_call 13; refine (head08_any _).mono ?_; rintro _ x1 ⟨rfl, hb1⟩; have HC1 : Hid (StC w w.heap.size s a n cap x1) := StC.keep HC0.out hb1; clear hb1)
      | ((with_reducible refine guard_load 25 ?_); clear T1; refine wpList_load_st rfl _ rfl HC1.out.1 rfl ?_)
      | (go_at_call 14; refine (scopy_any s a n cap _ HN.out HC1.out.2.1 hm).mono ?_; rintro _ x2 ⟨v2, rfl, ho2, hb2⟩; obtain ⟨a2, c2, hv2, _, _, hl2, _⟩ := ho2.shape; simp only [HN.out] at hv2; subst hv2; have HL2 : Hid (Lns x2 a2 s.lines) := hl2; have HC2 : Hid (StC w w.heap.size s a n cap x2) := StC.keep HC1.out hb2; clear hb2 ho2 hl2)
      | ((with_reducible refine guard_store 25 ?_); refine wpList_store_st (s := zeroS) (s2 := s) (a2 := a2) (n2 := n) (c2 := c2) rfl _ _ rfl (StAt.new x2 zeroS (.slice none 0 0)) rfl rfl ?_; intro x3 z1 z2 z3 z4; have hu := (z2 _ _ ((Below.refl x2.heap.size x2).alloc (Nat.le_refl _) _) (Nat.le_refl _)); have HC3 : Hid (StC w w.heap.size s a n cap x3) := StC.keep HC2.out hu; have HD3 : Hid (StC w x2.heap.size s a2 n c2 x3) := ⟨z1, HL2.out.keep hu, below_next HC2.out.2.2 hu⟩; clear z1 z2 z3 z4 hu)
      | ((with_reducible refine guard_load 25 ?_); clear T2; refine wpList_load_st rfl _ rfl HC3.out.1 rfl ?_)
      | (go_at_call 15; refine (rvalid_any s a n cap _ HN.out HC3.out.2.1 hlm).mono ?_; rw [HV.out]; rintro _ x4 ⟨rfl, hb4⟩; have HC4 : Hid (StC w w.heap.size s a n cap x4) := StC.keep HC3.out hb4; have HD4 : Hid (StC w x2.heap.size s a2 n c2 x4) := StC.keep HD3.out hb4; clear hb4)
      | ((with_reducible refine guard_load 25 ?_); clear T3; refine wpList_load_st rfl _ rfl HD4.out.1 rfl ?_)
      | (go_at_call 16; refine (odue_any s a2 n c2 _ HN.out HD4.out.2.1 hlm).mono ?_; rw [HV.out, if_pos rfl, HDD.out]; rintro _ x5 ⟨rfl, hb5⟩; have HC5 : Hid (StC w w.heap.size s a n cap x5) := StC.keep HC4.out hb5; have HD5 : Hid (StC w x2.heap.size s a2 n c2 x5) := StC.keep HD4.out hb5; clear hb5)
      | ((with_reducible refine guard_load 25 ?_); clear T4; refine wpList_load_st rfl _ rfl HD5.out.1 rfl ?_)
      | (go_at_call 17; refine (valid_st s a2 n c2 _ HN.out HD5.out.2.1 hlm).mono ?_; rw [HV.out]; rintro _ x6 ⟨rfl, hb6⟩; have HC6 : Hid (StC w w.heap.size s a n cap x6) := StC.keep HC5.out hb6; have HD6 : Hid (StC w x2.heap.size s a2 n c2 x6) := StC.keep HD5.out hb6; clear hb6)
      | ((with_reducible refine guard_loadg 25 ?_); first | (clear T5; refine wpList_load_stg rfl _ rfl HD6.out.1 rfl ?_) | refine wpList_load_stg rfl _ rfl HC7.out.1 rfl ?_ | refine wpList_load_stg rfl _ rfl HC6.out.1 rfl ?_)
      | (go_at_call 19; refine (rdue_any s a n cap _ HN.out HC7.out.2.1 HDU.out.1 HDU.out.2.1 HDU.out.2.2).mono ?_; rw [HDD.out]; rintro _ x8 ⟨rfl, hb8⟩; have HC8 : Hid (StC w w.heap.size s a n cap x8) := StC.keep HC7.out hb8; clear hb8)
      | (go_at_call 20; refine (empty_any id _).mono ?_; rintro _ x9 ⟨rfl, hb9⟩; have HC9 : Hid (StC w w.heap.size s a n cap x9) := StC.keep HC8.out hb9; clear hb9)
      | (go_at_call 18; have HC9b : Hid (StC w w.heap.size s a n cap x9) := HC9; refine (ssame_yes (empS id) none none 0 0 0 _ rfl (.inl rfl) (.inl rfl) (by decide)).mono ?_; rintro _ x10 ⟨rfl, hb10⟩; have HC10 : Hid (StC w w.heap.size s a n cap x10) := StC.keep HC9.out hb10; clear hb10)
      | (go_at_call 18; refine (ssame_yes s a2 a n c2 cap _ HN.out HD6.out.2.1 HC6.out.2.1 hlm).mono ?_; rintro _ x7 ⟨rfl, hb7⟩; have HC7 : Hid (StC w w.heap.size s a n cap x7) := StC.keep HC6.out hb7; clear hb7))
    go_ret
    exact ⟨rfl, HC10.out.2.2⟩
theorem own : ownKnob Tryz.prog.godebug = none := by kernel_rfl
theorem laidOut : laidOutB Tryz.prog = true := by kernel_rfl
set_option maxRecDepth 100000 in
theorem contract (H : Type) (enc : TypeId × Value → H) (W : World) (base : Nat) (args : Array Value) (ds gs : List (DataW H)) (before : List MemPlace)
    (hval : ∀ (j : Nat) t v, Tryz.f3.params[j]? = some t → args[j]? = some v → Value.okWide Tryz.prog W .any base t v)
    (hW : DataW.Whole enc Tryz.prog Tryz.f3.params.toList Rows.orderValidSpec.vars false W args.toList ds gs before)
    (hsz : (DataW.weightsEach Tryz.prog (Tryz.f3.params.toList ++ Rows.orderValidSpec.plain.varTypes Tryz.prog) (ds ++ gs)).all (· ≤ reachBytes) = true) :
    Calls Tryz.prog 3 args W fun e W' => ∃ v, e = .returned v ∧ Rows.orderValidSpec.post enc Tryz.prog Tryz.f3 false true false false W args v W' := by
  have hW' := hW
  obtain ⟨p, q, hA0, hV, rfl, hfz, hnd⟩ := hW
  have hA : DataW.TrodAll enc Tryz.prog W 0 (fun _ => true) true Tryz.f3.params.toList args.toList ds p := hA0
  rw [Tryz.params3] at hA hval hsz
  obtain ⟨v0, vs0, d0, ds0, p0, q0, hargs, rfl, rfl, h0, r0⟩ := trodAll_cons hA
  obtain ⟨v1, vs1, d1, ds1, p1, q1, rfl, rfl, rfl, h1, r1⟩ := trodAll_cons r0
  obtain ⟨rfl, rfl, rfl⟩ := trodAll_nil r1
  obtain rfl : args = #[v0, v1] := by cases args; simp_all
  obtain ⟨rfl, rfl⟩ := trodVars_none hV
  have k0 := h0
  have lt0 : ∀ x ∈ p0, x.block < W.heap.size := by obtain ⟨m, hm⟩ := k0; exact DataW.trod_lt m _ _ _ hm
  obtain ⟨st0, a0, n0, cap0, rfl, hlen0, w0, c0, m0⟩ := open_state (hval 0 25 v0 rfl rfl) h0 hsz (j := 0) rfl rfl
  obtain ⟨a1, rfl, rfl, rfl, w1⟩ := open_int Tryz.underlying3 (hval 1 3 v1 rfl rfl) h1
  clear hA0
  refine (walk st0 a0 n0 cap0 a1 W hlen0 w0 c0 m0 w1).mono fun e W' ⟨he, bel⟩ => ?_
  subst he
  exact ⟨_, rfl, _, _, _, [], _, [], hW', trodAll_mk1 (shut_bool Tryz.underlying4 _), (trodAll_cons_mk (Below.trod laidOut (by kernel_rfl) (of_decide_eq_true (by kernel_rfl)) k0 bel lt0) (trodAll_cons_mk (shut_int Tryz.underlying3 w1) trodAll_mk0)), rfl, bel.frame _, fun h => by cases h⟩
set_option maxRecDepth 100000 in
theorem lifted (os : Os) (started : os.Started) (H : Type) (enc : TypeId × Value → H) :
    ReturnsInHanded {} Tryz.checked os 3 .any (Rows.orderValidSpec.pre6 enc Tryz.prog Tryz.f3 Rows.orderValidRow.domain false) (Rows.orderValidSpec.post enc Tryz.prog Tryz.f3 false true false false) := by
  refine returnsInHanded_of_change_sized (C := Tryz.checked) own started (by kernel_rfl) Tryz.func3
    (ChangeSpec.witness6 (enc := enc) (C := Tryz.checked) false ⟨#[], #[.agg #[.int .i64 0, .int .i64 0, .int .i64 0, .int .i64 0, .int .i64 0, .slice none 0 0, .int .i64 0, .int .i64 0, .int .i64 0, .int .i64 0, .int .i64 0, .string ⟨#[]⟩], .int .i64 0], []⟩ 8 (by kernel_rfl) (by kernel_rfl) (by kernel_rfl) (by kernel_rfl)) ?_
  intro W base args ds gs before hval hW _ hsz _
  exact contract H enc W base args ds gs before hval hW hsz
theorem over : Rows.orderValidRow.holds Tryz.pinned (OpenSpec.ofChange Rows.orderValidSpec) :=
  OpenClaim.holds_of_wide 3 Tryz.f3 rfl rfl rfl rfl rfl rfl rfl ⟨rfl, rfl, rfl, rfl, rfl⟩ rfl rfl rfl rfl rfl (by kernel_rfl) Tryz.func3 (by kernel_rfl)
    (of_decide_eq_true (by kernel_rfl)) (by unfold Func.isWrapper; first | (rw [if_pos (by decide +kernel)]; kernel_rfl) | (rw [if_neg (by decide +kernel)]; exact ⟨rfl, rfl⟩))
    (fun os started H enc _ => lifted os started H enc)
theorem proved : Rows.OrderValidSaid := over
end Go.Proofs.YtmjppeljpifjpaaGreat.orderValid
