/- Money and goods are kept together behind any events: for every number and every list of events. -/
import Derived.Test.YtmjppeljpifjpaaM39
import Derived.Test.YtmjppeljpifjpaaM42
import Derived.SizedLaws
import Derived.ChangeOld
namespace Go.Proofs.Ytmjppeljpifjpaa.orderMoney
open Go.ChangeShapes Go.WideShapes Go.ChangeAt Go.RowKit
set_option linter.unusedVariables false
set_option linter.unusedSimpArgs false
theorem few {t : St} (h : vldB t = true) : t.lines.length ≤ 16 := (linesB_from (vl_of h).lines).1
theorem do_order (s : St) (e : Ev) : (doS s e).order = s.order := by
  unfold doS payS shipS
  repeat' split
  all_goals rfl
theorem next_order (s : St) (e : Ev) : (nextS s e).order = s.order := by
  unfold nextS
  split
  · rfl
  · split
    · exact do_order s e
    · rfl
theorem fold_order : ∀ (es : List Ev) (s : St), (foldS s es).order = s.order
  | [], s => rfl
  | e :: r, s => by
    show (foldS (nextS s e) r).order = _
    rw [fold_order r, next_order]
/-- of a valid state: a line of which something is shipped is one of an order that is paid whole -/
theorem shipped_paid {t : St} (h : vldB t = true) {k : Nat} {p : Ln} (hp : t.lines[k]? = some p) (hs : 0 < p.shipped) : t.paid = dueS t := by
  have v := vl_of h
  have hns : ¬ unshB t.lines = true := fun hu => by have := unsh_mem hu hp; omega
  have hf := v.fits
  have hst : standS t = 0 ∨ standS t = 1 ∨ standS t = 3 ∨ standS t = 4 ∨ standS t = 5 := by
    have s1 := v.s1
    have s2 := v.s2
    by_cases h2 : t.status = 2
    · rw [stand_held h2]
      rcases prior_held v.prior h2 with h3 | h3 <;> omega
    · rw [stand_st h2]; omega
  rcases hst with h0 | h0 | h0 | h0 | h0
  · have := (unt_parts (fits0 hf h0)).1
    rw [this] at hp
    simp at hp
  · exact absurd (fits1 hf h0).1 hns
  · have := (fits3 hf h0).1
    unfold paidB at this
    simp only [Bool.and_eq_true, beq_iff_eq, decide_eq_true_eq] at this
    omega
  · have := (fits4 hf h0).1
    unfold paidB at this
    simp only [Bool.and_eq_true, beq_iff_eq, decide_eq_true_eq] at this
    omega
  · exact absurd (fits5 hf h0) hns
set_option maxRecDepth 20000 in
set_option maxHeartbeats 8000000 in
theorem walk (id : Int) (es : List Ev) (ea : Option Addr) (m ecap : Nat) (w : World) (hid : (Lit.int .i64 id).wf = true)
    (hme : es.length = m) (hes : EvsIn w ea es) (hec : m ≤ ecap ∧ ecap * 96 ≤ 140737488351232 ∧ (ea = none → ecap = 0)) :
    Calls Try.prog 3 #[.int .i64 id, .slice ea m ecap] w fun r w' => r = .returned (.bool true) ∧ Below w.heap.size w w' := by
  have HM : Hid (es.length = m) := hme
  have HES : Hid (EvsIn w ea es) := hes
  have hmm : m ≤ 140737488351232 := by omega
  have T1 : Hid True := trivial
  clear hme hes hec hid
  by_cases h1 : id < 1
  · have d1 : decide (id < 1) = true := by simpa using h1
    go_enter Try.func3, Try.ntmps3
    go_wp2_with (first
      | (go_at_call 4; clear T1; refine (head08_any _).mono ?_; rintro _ x1 ⟨rfl, hb1⟩; have HB1 : Hid (Below w.heap.size w x1) := hb1; clear hb1)
      | (go_at_call 4; refine (head08_any _).mono ?_; rintro _ x2 ⟨rfl, hb2⟩; have HB2 : Hid (Below w.heap.size w x2) := below_next HB1.out hb2; clear hb2))
    go_ret
    exact ⟨rfl, HB2.out⟩
  · have d1 : decide (id < 1) = false := by simpa using h1
    by_cases h2 : 1099511627776 < id
    · have d2 : decide (1099511627776 < id) = true := by simpa using h2
      go_enter Try.func3, Try.ntmps3
      go_wp2_with (first
        | (go_at_call 4; clear T1; refine (head08_any _).mono ?_; rintro _ x1 ⟨rfl, hb1⟩; have HB1 : Hid (Below w.heap.size w x1) := hb1; clear hb1)
        | (go_at_call 4; refine (head08_any _).mono ?_; rintro _ x2 ⟨rfl, hb2⟩; have HB2 : Hid (Below w.heap.size w x2) := below_next HB1.out hb2; clear hb2))
      go_ret
      exact ⟨rfl, HB2.out⟩
    · have d2 : decide (1099511627776 < id) = false := by simpa using h2
      have HV : Hid (vldB (empS id) = true) := emp_valid (by omega) (by omega)
      go_enter Try.func3, Try.ntmps3
      go_wp2_with (first
        | (go_at_call 4; refine (head08_any _).mono ?_; rintro _ x1 ⟨rfl, hb1⟩; have HB1 : Hid (Below w.heap.size w x1) := hb1; clear hb1)
        | (go_at_call 5; refine (empty_any id _).mono ?_; rintro _ x2 ⟨rfl, hb2⟩; have HB2 : Hid (Below w.heap.size w x2) := below_next HB1.out hb2; clear hb2)
        | ((with_reducible refine guard_store 27 ?_); refine wpList_store_st (s := zeroS) (s2 := empS id) (a2 := none) (n2 := 0) (c2 := 0) rfl _ _ rfl (StAt.new x2 zeroS (.slice none 0 0)) rfl rfl ?_; intro x3 z1 z2 z3 z4; have hu := (z2 _ _ ((Below.refl x2.heap.size x2).alloc (Nat.le_refl _) _) (Nat.le_refl _)); have HD3 : Hid (StC w x2.heap.size (empS id) none 0 0 x3) := ⟨z1, .inl rfl, below_next HB2.out hu⟩; clear z1 z2 z3 z4 hu))
      have HSZ : Hid (w.heap.size ≤ x2.heap.size) := HB2.out.size
      obtain ⟨B, hB⟩ : ∃ B, x2.heap.size = B := ⟨_, rfl⟩
      rw [hB] at HD3 HSZ ⊢
      clear hB h1 h2 d1 d2
      go_loopw [27] (fun vi wr => ∃ (k : Nat), k ≤ m ∧ vi = .int .i64 k ∧ Hid (∃ a' n' c', StC w B (foldS (empS id) (es.take k)) a' n' c' wr ∧ (foldS (empS id) (es.take k)).lines.length = n')) (fun vi _ => m - (intOf vi).toNat)
      case atStart => exact ⟨0, Nat.zero_le _, rfl, ⟨none, 0, 0, HD3.out, rfl⟩⟩
      case round =>
        clear HB1 HB2 HD3
        obtain ⟨k, hk, rfl, HI⟩ := hrel
        by_cases hkm : k < m
        · obtain ⟨e, he⟩ := ln_get (L := es) (k := k) (by rw [HM.out]; exact hkm)
          obtain ⟨a2, n2, c2, hF, hn2⟩ := HI.out
          have hstep := fold_step (empS id) es k e he
          obtain ⟨eb, eoff, rfl, q0, q1, q2, q3, q4, q5, q6, q7, q8, q9⟩ := (HES.out.keep hF.2.2).cells he
          have hvt := fold_valid (empS id) (es.take k) HV.out
          obtain ⟨t, ht⟩ : ∃ t, foldS (empS id) (es.take k) = t := ⟨_, rfl⟩
          rw [ht] at hF hstep hn2 hvt
          obtain ⟨u, hu⟩ : ∃ u, nextS t e = u := ⟨_, rfl⟩
          have hvu : vldB u = true := by rw [← hu]; exact next_valid hvt
          have HST : Hid (foldS (empS id) (es.take (k + 1)) = u) := hstep.trans hu
          have HUE : Hid (nextS t e = u) := hu
          have HA : Hid (StC w B t a2 n2 c2 (wr.alloc (.cells (evA e) 31))) := StC.alloc hF _
          have HE : Hid (EvAt (wr.alloc (.cells (evA e) 31)) wr.heap.size e) := evAt_new wr e
          have HN2 : Hid (t.lines.length = n2) := hn2
          have HV3 : Hid (vldB u = true) := hvu
          have HF3 : Hid (u.lines.length ≤ 16) := few hvu
          have hm2 : n2 * 32 ≤ 140737488351232 := by have := few hvt; rw [hn2] at this; omega
          have vu := vl_of hvu
          obtain ⟨d, hd⟩ : ∃ d, dueS u = d := ⟨_, rfl⟩
          have HDE : Hid (dueS u = d) := hd
          have g1 : decide (d < u.paid) = false := by have := vu.p2; simp; omega
          have g2 : decide (u.paid < u.refunded) = false := by have := vu.f2; simp; omega
          have g3 : decide (u.events < u.refused) = false := by have := vu.r2; simp; omega
          have U1 : Hid True := trivial
          clear HI hF hstep ht he hn2 hvt hvu hu vu hd
          go_wp2_with (first
            | ((with_reducible refine guard_load 27 ?_); clear U1; refine wpList_load_st rfl _ rfl HA.out.1 rfl ?_)
            | ((with_reducible refine guard_load 31 ?_); refine wpList_load_ev rfl _ rfl HE.out rfl ?_)
            | (go_at_call 6; refine (apply_any t e a2 n2 c2 _ HN2.out HA.out.2.1 hm2).mono ?_; rw [HUE.out]; rintro _ y2 ⟨a3, n3, c3, rfl, ho3, hb3⟩; have HX : Hid (OwnL y2 _ (.slice a3 n3 c3) u.lines) := ho3; have HY : Hid (StC w B t a2 n2 c2 y2) := StC.keep HA.out hb3; have HN3 : Hid (u.lines.length = n3) := ho3.len; clear ho3 hb3)
            | ((with_reducible refine guard_store 27 ?_); refine wpList_store_st (s := t) (s2 := u) (a2 := a3) (n2 := n3) (c2 := c3) rfl _ _ rfl HY.out.1 rfl rfl ?_; intro y3 z1 z2 z3 z4; have HZ : Hid (StC w B u a3 n3 c3 y3) := ⟨z1, ownl_lns (HX.out.keepOther (fun g hg => z3 g (fun hh => own_st_ne HX.out (hh ▸ HY.out.1) hg.symm))), z2 _ _ HY.out.2.2 HSZ.out⟩; clear z1 z2 z3 z4)
            | ((with_reducible refine guard_load 27 ?_); refine wpList_load_st rfl _ rfl HZ.out.1 rfl ?_)
            | (go_at_call 7; refine (odue_any u a3 n3 c3 _ HN3.out HZ.out.2.1 (by have := HN3.out; have := HF3.out; unfold maxLen; omega)).mono ?_; rw [HV3.out, if_pos rfl, HDE.out]; rintro _ y4 ⟨rfl, hb4⟩; have HW : Hid (StC w B u a3 n3 c3 y4) := StC.keep HZ.out hb4; have e6 := HW.out.1.cell 6 (.int .i64 u.paid) rfl; have e7 := HW.out.1.cell 7 (.int .i64 u.refunded) rfl; have e8 := HW.out.1.cell 8 (.int .i64 u.events) rfl; have e9 := HW.out.1.cell 9 (.int .i64 u.refused) rfl; have e5 := HW.out.1.cell 5 (.slice a3 n3 c3) rfl; clear hb4))
          have hn3 : n3 ≤ 16 := by have := HN3.out; have := HF3.out; omega
          have HWW : Hid (StC w B u a3 n3 c3 y4) := HW
          clear e6 e7 e8 e9 e5 g1 g2 g3
          rename World => wo
          go_loopw [67] (fun vi wr => ∃ (i : Nat), i ≤ n3 ∧ vi = .int .i64 i ∧ Hid (StC w B u a3 n3 c3 wr)) (fun vi _ => n3 - (intOf vi).toNat)
          case atStart => exact ⟨0, Nat.zero_le _, rfl, HWW.out⟩
          case round =>
            clear HA HE HX HY HZ HW HWW
            obtain ⟨i, hi, rfl, HI⟩ := hrel
            by_cases hin : i < n3
            · obtain ⟨p, hp⟩ := ln_get (L := u.lines) (k := i) (by rw [HN3.out]; exact hin)
              obtain ⟨lb, lo, rfl, hlt, l0, l1, l2, l3⟩ := HI.out.2.1.cells i p hp
              have e6 := (StC.alloc HI.out (.cells #[.int .i64 p.item, .int .i64 p.price, .int .i64 p.qty, .int .i64 p.shipped] 38)).1.cell 6 (.int .i64 u.paid) rfl
              have HI2 : Hid (StC w B u (some ⟨lb, lo, none⟩) n3 c3 (wr.alloc (.cells #[.int .i64 p.item, .int .i64 p.price, .int .i64 p.qty, .int .i64 p.shipped] 38))) := StC.alloc HI.out _
              have fp := (linesB_facts (vl_of HV3.out).lines).2 _ _ hp
              have g4 : decide (p.qty < p.shipped) = false := by simp; omega
              by_cases hs : 0 < p.shipped
              · have g5 : decide (0 < p.shipped) = true := by simpa using hs
                have g6 : (u.paid != d) = false := by have := shipped_paid HV3.out hp hs; rw [HDE.out] at this; simpa using this
                clear hp fp
                go_wp2
                go_roundw
                case rel => exact ⟨i + 1, by omega, by go_num, HI2.out⟩
                case measure => simp [intOf]; omega
              · have g5 : decide (0 < p.shipped) = false := by simpa using hs
                clear hp fp
                go_wp2
                go_roundw
                case rel => exact ⟨i + 1, by omega, by go_num, HI2.out⟩
                case measure => simp [intOf]; omega
            · obtain rfl : i = n3 := by omega
              go_wp2
              go_roundw
              case rel => exact ⟨k + 1, by omega, by go_num, ⟨a3, i, c3, by rw [HST.out]; exact ⟨HI.out, HN3.out⟩⟩⟩
              case measure => simp [intOf]; omega
        · obtain rfl : k = m := by omega
          obtain ⟨a2, n2, c2, hF, hn2⟩ := HI.out
          have e0 := hF.1.cell 0 (.int .i64 (foldS (empS id) (es.take k)).order) rfl
          rw [fold_order] at e0
          have e00 : wr.cell? ⟨B, 0, none⟩ = some (.int .i64 id) := e0
          have HB : Hid (Below w.heap.size w wr) := hF.2.2
          clear hF hn2 HI e0
          go_wp2
          go_ret
          exact ⟨rfl, HB.out⟩
theorem own : ownKnob Try.prog.godebug = none := by kernel_rfl
theorem laidOut : laidOutB Try.prog = true := by kernel_rfl
set_option maxRecDepth 100000 in
theorem contract (H : Type) (enc : TypeId × Value → H) (W : World) (base : Nat) (args : Array Value) (ds gs : List (DataW H)) (before : List MemPlace)
    (hval : ∀ (j : Nat) t v, Try.f3.params[j]? = some t → args[j]? = some v → Value.okWide Try.prog W .any base t v)
    (hW : DataW.Whole enc Try.prog Try.f3.params.toList Rows.orderMoneySpec.vars false W args.toList ds gs before)
    (hsz : (DataW.weightsEach Try.prog (Try.f3.params.toList ++ Rows.orderMoneySpec.plain.varTypes Try.prog) (ds ++ gs)).all (· ≤ reachBytes) = true) :
    Calls Try.prog 3 args W fun e W' => ∃ v, e = .returned v ∧ Rows.orderMoneySpec.post enc Try.prog Try.f3 false true false false W args v W' := by
  have hW' := hW
  obtain ⟨p, q, hA0, hV, rfl, hfz, hnd⟩ := hW
  have hA : DataW.TrodAll enc Try.prog W 0 (fun _ => true) true Try.f3.params.toList args.toList ds p := hA0
  rw [Try.params3] at hA hval hsz
  obtain ⟨v0, vs0, d0, ds0, p0, q0, hargs, rfl, rfl, h0, r0⟩ := trodAll_cons hA
  obtain ⟨v1, vs1, d1, ds1, p1, q1, rfl, rfl, rfl, h1, r1⟩ := trodAll_cons r0
  obtain ⟨rfl, rfl, rfl⟩ := trodAll_nil r1
  obtain rfl : args = #[v0, v1] := by cases args; simp_all
  obtain ⟨rfl, rfl⟩ := trodVars_none hV
  obtain ⟨a0, rfl, rfl, rfl, w0⟩ := open_int Try.underlying3 (hval 0 3 v0 rfl rfl) h0
  obtain ⟨a1, len1, cap1, rfl⟩ := okWide_slice Try.underlying22 (hval 1 22 v1 rfl rfl)
  have k1 := h1
  have lt1 : ∀ x ∈ p1, x.block < W.heap.size := by obtain ⟨m, hm⟩ := k1; exact DataW.trod_lt m _ _ _ hm
  obtain ⟨l1, hlen1, w1, c1⟩ : ∃ L : List Ev, L.length = len1 ∧ EvsIn W a1 L ∧ (len1 ≤ cap1 ∧ cap1 * 96 ≤ 140737488351232 ∧ (a1 = none → cap1 = 0)) := by
    obtain ⟨fuel, hf⟩ := h1
    obtain ⟨a', l', c', L, hcs, hl, hm, hLl, hfs, hn0, hx⟩ := open_evs hf
    simp [Value.cells] at hcs
    obtain ⟨rfl, rfl, rfl⟩ := hcs
    refine ⟨L, hLl, hfs, hl, ?_, hn0⟩
    rcases hx with hx | ⟨e, s, hx, hes⟩
    · omega
    · have hd : d1 = _ := hx
      have := sized_evs hsz (j := 1) (e := e) (s := s) rfl (by rw [hd]; rfl)
      omega
  clear hA0
  refine (walk a0 l1 a1 len1 cap1 W w0 hlen1 w1 c1).mono fun e W' ⟨he, bel⟩ => ?_
  subst he
  exact ⟨_, rfl, _, _, _, [], _, [], hW', trodAll_mk1 (shut_bool Try.underlying4 _), (trodAll_cons_mk (shut_int Try.underlying3 w0) (trodAll_cons_mk (Below.trod laidOut (by kernel_rfl) (of_decide_eq_true (by kernel_rfl)) k1 bel lt1) trodAll_mk0)), rfl, bel.frame _, fun h => by cases h⟩
set_option maxRecDepth 100000 in
theorem lifted (os : Os) (started : os.Started) (H : Type) (enc : TypeId × Value → H) :
    ReturnsInHanded {} Try.checked os 3 .any (Rows.orderMoneySpec.pre6 enc Try.prog Try.f3 Rows.orderMoneyRow.domain false) (Rows.orderMoneySpec.post enc Try.prog Try.f3 false true false false) := by
  refine returnsInHanded_of_change_sized (C := Try.checked) own started (by kernel_rfl) Try.func3
    (ChangeSpec.witness6 (enc := enc) (C := Try.checked) false ⟨#[], #[.int .i64 0, .slice none 0 0], []⟩ 8 (by kernel_rfl) (by kernel_rfl) (by kernel_rfl) (by kernel_rfl)) ?_
  intro W base args ds gs before hval hW _ hsz _
  exact contract H enc W base args ds gs before hval hW hsz
theorem over : Rows.orderMoneyRow.holds Try.pinned (OpenSpec.ofChange Rows.orderMoneySpec) :=
  OpenClaim.holds_of_wide 3 Try.f3 rfl rfl rfl rfl rfl rfl rfl ⟨rfl, rfl, rfl, rfl, rfl⟩ rfl rfl rfl rfl rfl (by kernel_rfl) Try.func3 (by kernel_rfl)
    (of_decide_eq_true (by kernel_rfl)) (by unfold Func.isWrapper; first | (rw [if_pos (by decide +kernel)]; kernel_rfl) | (rw [if_neg (by decide +kernel)]; exact ⟨rfl, rfl⟩))
    (fun os started H enc _ => lifted os started H enc)
theorem proved : Rows.OrderMoneySaid := over
end Go.Proofs.Ytmjppeljpifjpaa.orderMoney
