/- Behind any events a valid state is valid: for every state and every list of events. -/
import Derived.Test.YtmjppeljpifjpaaGreatK39
import Derived.Test.YtmjppeljpifjpaaGreatK41
import Derived.Test.YtmjppeljpifjpaaGreatK42
import Derived.SizedLaws
import Derived.ChangeOld
namespace Go.Proofs.YtmjppeljpifjpaaGreat.orderStays
open Go.ChangeShapes Go.WideShapes Go.ChangeAt Go.RowKit
set_option linter.unusedVariables false
theorem few {t : St} (h : vldB t = true) : t.lines.length ≤ 16 := (linesB_from (vl_of h).lines).1
set_option maxRecDepth 20000 in
set_option maxHeartbeats 4000000 in
theorem walk (s : St) (a : Option Addr) (n cap : Nat) (es : List Ev) (ea : Option Addr) (m ecap : Nat) (w : World) (hn : s.lines.length = n) (hl : Lns w a s.lines) (hc : n ≤ cap) (hm : n * 32 ≤ 140737488351232)
    (hme : es.length = m) (hes : EvsIn w ea es) (hec : m ≤ ecap ∧ ecap * 96 ≤ 140737488351232 ∧ (ea = none → ecap = 0)) :
    Calls Tryz.prog 7 #[.agg (stA s (.slice a n cap)), .slice ea m ecap] w fun r w' => r = .returned (.bool true) ∧ Below w.heap.size w w' := by
  have HN : Hid (s.lines.length = n) := hn
  have HM : Hid (es.length = m) := hme
  have HES : Hid (EvsIn w ea es) := hes
  have hmm : m ≤ 140737488351232 := by omega
  have hlm : n ≤ maxLen := by unfold maxLen; omega
  have HC0 : Hid (StC w w.heap.size s a n cap (w.alloc (.cells (stA s (.slice a n cap)) 25))) := StC.new w s a n cap hl
  have HE1 : Hid (vldB (empS 1) = true) := emp_valid (by decide) (by decide)
  have T1 : Hid True := trivial
  have T2 : Hid True := trivial
  have T3 : Hid True := trivial
  cases hv : vldB s with
  | false =>
    have HV : Hid (vldB s = false) := hv
    clear hn hl hv hme hes hec
    go_enter Tryz.func7, Tryz.ntmps7
    go_wp2_with (first
      | (go_at_call 13; refine (head08_any _).mono ?_; rintro _ x1 ⟨rfl, hb1⟩; have HC1 : Hid (StC w w.heap.size s a n cap x1) := StC.keep HC0.out hb1; clear hb1)
      | (go_at_call 20; refine (empty_any 1 _).mono ?_; rintro _ x2 ⟨rfl, hb2⟩; have HC2 : Hid (StC w w.heap.size s a n cap x2) := StC.keep HC1.out hb2; clear hb2)
      | (go_at_call 17; clear T1; refine (valid_st (empS 1) none 0 0 _ rfl (.inl rfl) (by decide)).mono ?_; rw [HE1.out]; rintro _ x3 ⟨rfl, hb3⟩; have HC3 : Hid (StC w w.heap.size s a n cap x3) := StC.keep HC2.out hb3; clear hb3)
      | ((with_reducible refine guard_load 25 ?_); clear T2; refine wpList_load_st rfl _ rfl HC3.out.1 rfl ?_)
      | (go_at_call 14; refine (scopy_any s a n cap _ HN.out HC3.out.2.1 hm).mono ?_; rintro _ x4 ⟨v4, rfl, ho4, hb4⟩; obtain ⟨a4, c4, hv4, _, _, hl4, _⟩ := ho4.shape; simp only [HN.out] at hv4; subst hv4; have HL4 : Hid (Lns x4 a4 s.lines) := hl4; have HC4 : Hid (StC w w.heap.size s a n cap x4) := StC.keep HC3.out hb4; clear hb4 ho4 hl4)
      | ((with_reducible refine guard_store 25 ?_); refine wpList_store_st (s := zeroS) (s2 := s) (a2 := a4) (n2 := n) (c2 := c4) rfl _ _ rfl (StAt.new x4 zeroS (.slice none 0 0)) rfl rfl ?_; intro x5 z1 z2 z3 z4; have hu := (z2 _ _ ((Below.refl x4.heap.size x4).alloc (Nat.le_refl _) _) (Nat.le_refl _)); have HD5 : Hid (StC w x4.heap.size s a4 n c4 x5) := ⟨z1, HL4.out.keep hu, below_next HC4.out.2.2 hu⟩; clear z1 z2 z3 z4 hu)
      | ((with_reducible refine guard_load 25 ?_); refine wpList_load_st rfl _ rfl HD5.out.1 rfl ?_)
      | (go_at_call 17; refine (valid_st s a4 n c4 _ HN.out HD5.out.2.1 hlm).mono ?_; rw [HV.out]; rintro _ x6 ⟨rfl, hb6⟩; have HD6 : Hid (StC w x4.heap.size s a4 n c4 x6) := StC.keep HD5.out hb6; clear hb6))
    go_ret
    exact ⟨rfl, HD6.out.2.2⟩
  | true =>
    have HV : Hid (vldB s = true) := hv
    clear hn hl hv hme hes hec
    go_enter Tryz.func7, Tryz.ntmps7
    go_wp2_with (first
      | (go_at_call 13; refine (head08_any _).mono ?_; rintro _ x1 ⟨rfl, hb1⟩; have HC1 : Hid (StC w w.heap.size s a n cap x1) := StC.keep HC0.out hb1; clear hb1)
      | (go_at_call 20; refine (empty_any 1 _).mono ?_; rintro _ x2 ⟨rfl, hb2⟩; have HC2 : Hid (StC w w.heap.size s a n cap x2) := StC.keep HC1.out hb2; clear hb2)
      | (go_at_call 17; clear T1; refine (valid_st (empS 1) none 0 0 _ rfl (.inl rfl) (by decide)).mono ?_; rw [HE1.out]; rintro _ x3 ⟨rfl, hb3⟩; have HC3 : Hid (StC w w.heap.size s a n cap x3) := StC.keep HC2.out hb3; clear hb3)
      | ((with_reducible refine guard_load 25 ?_); clear T2; refine wpList_load_st rfl _ rfl HC3.out.1 rfl ?_)
      | (go_at_call 14; refine (scopy_any s a n cap _ HN.out HC3.out.2.1 hm).mono ?_; rintro _ x4 ⟨v4, rfl, ho4, hb4⟩; obtain ⟨a4, c4, hv4, _, _, hl4, _⟩ := ho4.shape; simp only [HN.out] at hv4; subst hv4; have HL4 : Hid (Lns x4 a4 s.lines) := hl4; have HC4 : Hid (StC w w.heap.size s a n cap x4) := StC.keep HC3.out hb4; clear hb4 ho4 hl4)
      | ((with_reducible refine guard_store 25 ?_); refine wpList_store_st (s := zeroS) (s2 := s) (a2 := a4) (n2 := n) (c2 := c4) rfl _ _ rfl (StAt.new x4 zeroS (.slice none 0 0)) rfl rfl ?_; intro x5 z1 z2 z3 z4; have hu := (z2 _ _ ((Below.refl x4.heap.size x4).alloc (Nat.le_refl _) _) (Nat.le_refl _)); have HD5 : Hid (StC w x4.heap.size s a4 n c4 x5) := ⟨z1, HL4.out.keep hu, below_next HC4.out.2.2 hu⟩; clear z1 z2 z3 z4 hu)
      | ((with_reducible refine guard_load 25 ?_); refine wpList_load_st rfl _ rfl HD5.out.1 rfl ?_)
      | (go_at_call 17; refine (valid_st s a4 n c4 _ HN.out HD5.out.2.1 hlm).mono ?_; rw [HV.out]; rintro _ x6 ⟨rfl, hb6⟩; have HD6 : Hid (StC w x4.heap.size s a4 n c4 x6) := StC.keep HD5.out hb6; clear hb6))
    have HSZ : Hid (w.heap.size ≤ x4.heap.size) := HC4.out.2.2.size
    go_loopw [22] (fun vi wr => ∃ (k : Nat), k ≤ m ∧ vi = .int .i64 k ∧ Hid (∃ a' n' c', StC w x4.heap.size (foldS s (es.take k)) a' n' c' wr ∧ (foldS s (es.take k)).lines.length = n')) (fun vi _ => m - (intOf vi).toNat)
    case atStart => exact ⟨0, Nat.zero_le _, rfl, ⟨a4, n, c4, HD6.out, HN.out⟩⟩
    case round =>
      clear HC0 HC1 HC2 HC3 HC4 HL4 HD5 HD6
      obtain ⟨k, hk, rfl, HI⟩ := hrel
      by_cases hkm : k < m
      · obtain ⟨e, he⟩ := ln_get (L := es) (k := k) (by rw [HM.out]; exact hkm)
        obtain ⟨a2, n2, c2, hF, hn2⟩ := HI.out
        have hstep := fold_step s es k e he
        obtain ⟨eb, eoff, rfl, q0, q1, q2, q3, q4, q5, q6, q7, q8, q9⟩ := (HES.out.keep hF.2.2).cells he
        have hvt := fold_valid s (es.take k) HV.out
        obtain ⟨t, ht⟩ : ∃ t, foldS s (es.take k) = t := ⟨_, rfl⟩
        rw [ht] at hF hstep hn2 hvt
        have HST : Hid (foldS s (es.take (k + 1)) = nextS t e) := hstep
        have HA : Hid (StC w x4.heap.size t a2 n2 c2 (wr.alloc (.cells (evA e) 37))) := StC.alloc hF _
        have HE : Hid (EvAt (wr.alloc (.cells (evA e) 37)) wr.heap.size e) := evAt_new wr e
        have HN2 : Hid (t.lines.length = n2) := hn2
        have HV3 : Hid (vldB (nextS t e) = true) := next_valid hvt
        have HF3 : Hid ((nextS t e).lines.length ≤ 16) := few HV3.out
        have hm2 : n2 * 32 ≤ 140737488351232 := by have := few hvt; rw [hn2] at this; omega
        have U1 : Hid True := trivial
        have U2 : Hid True := trivial
        clear HI hF hstep ht he hn2 hvt
        go_wp2_with (first
          | ((with_reducible refine guard_load 25 ?_); clear U1; refine wpList_load_st rfl _ rfl HA.out.1 rfl ?_)
          | ((with_reducible refine guard_load 37 ?_); refine wpList_load_ev rfl _ rfl HE.out rfl ?_)
          | (go_at_call 24; refine (apply_any t e a2 n2 c2 _ HN2.out HA.out.2.1 hm2).mono ?_; rintro _ y2 ⟨a3, n3, c3, rfl, ho3, hb3⟩; have HX : Hid (OwnL y2 _ (.slice a3 n3 c3) (nextS t e).lines) := ho3; have HY : Hid (StC w x4.heap.size t a2 n2 c2 y2) := StC.keep HA.out hb3; have HN3 : Hid ((nextS t e).lines.length = n3) := ho3.len; clear ho3 hb3)
          | ((with_reducible refine guard_store 25 ?_); refine wpList_store_st (s := t) (s2 := nextS t e) (a2 := a3) (n2 := n3) (c2 := c3) rfl _ _ rfl HY.out.1 rfl rfl ?_; intro y3 z1 z2 z3 z4; have HZ : Hid (StC w x4.heap.size (nextS t e) a3 n3 c3 y3) := ⟨z1, ownl_lns (HX.out.keepOther (fun g hg => z3 g (fun hh => own_st_ne HX.out (hh ▸ HY.out.1) hg.symm))), z2 _ _ HY.out.2.2 HSZ.out⟩; clear z1 z2 z3 z4)
          | ((with_reducible refine guard_load 25 ?_); refine wpList_load_st rfl _ rfl HZ.out.1 rfl ?_)
          | (go_at_call 17; refine (valid_st (nextS t e) a3 n3 c3 _ HN3.out HZ.out.2.1 (by have := HN3.out; have := HF3.out; unfold maxLen; omega)).mono ?_; rw [HV3.out]; rintro _ y4 ⟨rfl, hb4⟩; have HW : Hid (StC w x4.heap.size (nextS t e) a3 n3 c3 y4) := StC.keep HZ.out hb4; clear hb4))
        go_roundw
        case rel => exact ⟨k + 1, by omega, by go_num, ⟨a3, n3, c3, by rw [HST.out]; exact ⟨HW.out, HN3.out⟩⟩⟩
        case measure => simp [intOf]; omega
      · obtain rfl : k = m := by omega
        obtain ⟨a2, n2, c2, hF, hn2⟩ := HI.out
        have HB : Hid (Below w.heap.size w wr) := hF.2.2
        clear hF hn2 HI
        go_wp2
        go_ret
        exact ⟨rfl, HB.out⟩
theorem own : ownKnob Tryz.prog.godebug = none := by kernel_rfl
theorem laidOut : laidOutB Tryz.prog = true := by kernel_rfl
set_option maxRecDepth 100000 in
theorem contract (H : Type) (enc : TypeId × Value → H) (W : World) (base : Nat) (args : Array Value) (ds gs : List (DataW H)) (before : List MemPlace)
    (hval : ∀ (j : Nat) t v, Tryz.f7.params[j]? = some t → args[j]? = some v → Value.okWide Tryz.prog W .any base t v)
    (hW : DataW.Whole enc Tryz.prog Tryz.f7.params.toList Rows.orderStaysSpec.vars false W args.toList ds gs before)
    (hsz : (DataW.weightsEach Tryz.prog (Tryz.f7.params.toList ++ Rows.orderStaysSpec.plain.varTypes Tryz.prog) (ds ++ gs)).all (· ≤ reachBytes) = true) :
    Calls Tryz.prog 7 args W fun e W' => ∃ v, e = .returned v ∧ Rows.orderStaysSpec.post enc Tryz.prog Tryz.f7 false true false false W args v W' := by
  have hW' := hW
  obtain ⟨p, q, hA0, hV, rfl, hfz, hnd⟩ := hW
  have hA : DataW.TrodAll enc Tryz.prog W 0 (fun _ => true) true Tryz.f7.params.toList args.toList ds p := hA0
  rw [Tryz.params7] at hA hval hsz
  obtain ⟨v0, vs0, d0, ds0, p0, q0, hargs, rfl, rfl, h0, r0⟩ := trodAll_cons hA
  obtain ⟨v1, vs1, d1, ds1, p1, q1, rfl, rfl, rfl, h1, r1⟩ := trodAll_cons r0
  obtain ⟨rfl, rfl, rfl⟩ := trodAll_nil r1
  obtain rfl : args = #[v0, v1] := by cases args; simp_all
  obtain ⟨rfl, rfl⟩ := trodVars_none hV
  have k0 := h0
  have lt0 : ∀ x ∈ p0, x.block < W.heap.size := by obtain ⟨m, hm⟩ := k0; exact DataW.trod_lt m _ _ _ hm
  obtain ⟨st0, a0, n0, cap0, rfl, hlen0, w0, c0, m0⟩ := open_state (hval 0 25 v0 rfl rfl) h0 hsz (j := 0) rfl rfl
  obtain ⟨a1, len1, cap1, rfl⟩ := okWide_slice Tryz.underlying45 (hval 1 45 v1 rfl rfl)
  have k1 := h1
  have lt1 : ∀ x ∈ p1, x.block < W.heap.size := by obtain ⟨m, hm⟩ := k1; exact DataW.trod_lt m _ _ _ hm
  obtain ⟨l1, hlen1, w1, c1⟩ : ∃ L : List Ev, L.length = len1 ∧ EvsIn W a1 L ∧ (len1 ≤ cap1 ∧ cap1 * 96 ≤ 140737488351232 ∧ (a1 = none → cap1 = 0)) := by
    obtain ⟨fuel, hf⟩ := h1
    obtain ⟨a', l', c', L, hcs, hl, hm, hLl, hfs, hn0, hx⟩ := open_evs hf
    simp [Value.cells] at hcs
    obtain ⟨rfl, rfl, rfl⟩ := hcs
    refine ⟨L, hLl, hfs, hl, ?_, hn0⟩
    rcases hx with hx | ⟨e, s, hx, hes⟩
    · omega
    · have hd : d1 = _ := hx
      have := sized_evs hsz (j := 1) (e := e) (s := s) rfl (by rw [hd]; rfl)
      omega
  clear hA0
  refine (walk st0 a0 n0 cap0 l1 a1 len1 cap1 W hlen0 w0 c0 m0 hlen1 w1 c1).mono fun e W' ⟨he, bel⟩ => ?_
  subst he
  exact ⟨_, rfl, _, _, _, [], _, [], hW', trodAll_mk1 (shut_bool Tryz.underlying4 _), (trodAll_cons_mk (Below.trod laidOut (by kernel_rfl) (of_decide_eq_true (by kernel_rfl)) k0 bel lt0) (trodAll_cons_mk (Below.trod laidOut (by kernel_rfl) (of_decide_eq_true (by kernel_rfl)) k1 bel lt1) trodAll_mk0)), rfl, bel.frame _, fun h => by cases h⟩
set_option maxRecDepth 100000 in
theorem lifted (os : Os) (started : os.Started) (H : Type) (enc : TypeId × Value → H) :
    ReturnsInHanded {} Tryz.checked os 7 .any (Rows.orderStaysSpec.pre6 enc Tryz.prog Tryz.f7 Rows.orderStaysRow.domain false) (Rows.orderStaysSpec.post enc Tryz.prog Tryz.f7 false true false false) := by
  refine returnsInHanded_of_change_sized (C := Tryz.checked) own started (by kernel_rfl) Tryz.func7
    (ChangeSpec.witness6 (enc := enc) (C := Tryz.checked) false ⟨#[], #[.agg #[.int .i64 0, .int .i64 0, .int .i64 0, .int .i64 0, .int .i64 0, .slice none 0 0, .int .i64 0, .int .i64 0, .int .i64 0, .int .i64 0, .int .i64 0, .string ⟨#[]⟩], .slice none 0 0], []⟩ 8 (by kernel_rfl) (by kernel_rfl) (by kernel_rfl) (by kernel_rfl)) ?_
  intro W base args ds gs before hval hW _ hsz _
  exact contract H enc W base args ds gs before hval hW hsz
theorem over : Rows.orderStaysRow.holds Tryz.pinned (OpenSpec.ofChange Rows.orderStaysSpec) :=
  OpenClaim.holds_of_wide 7 Tryz.f7 rfl rfl rfl rfl rfl rfl rfl ⟨rfl, rfl, rfl, rfl, rfl⟩ rfl rfl rfl rfl rfl (by kernel_rfl) Tryz.func7 (by kernel_rfl)
    (of_decide_eq_true (by kernel_rfl)) (by unfold Func.isWrapper; first | (rw [if_pos (by decide +kernel)]; kernel_rfl) | (rw [if_neg (by decide +kernel)]; exact ⟨rfl, rfl⟩))
    (fun os started H enc _ => lifted os started H enc)
theorem proved : Rows.OrderStaysSaid := over
end Go.Proofs.YtmjppeljpifjpaaGreat.orderStays
