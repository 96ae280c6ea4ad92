/- Own texts, joined: Ra2, Ra6, Ra3. -/
import Derived.Test.YtldbdhhbmnbmaaaGreatM78
import Derived.Test.YtldbdhhbmnbmaaaGreatM75
import Derived.Test.YtldbdhhbmnbmaaaGreatM27
namespace Go.Proofs.YtldbdhhbmnbmaaaGreat
open Go.ChangeShapes Go.WideShapes Go.ChangeAt Go.RowKit
set_option linter.unusedVariables false
set_option linter.unusedSimpArgs false
theorem Ap.lines {w x y : World} {s t : St} {e : Ev} {a : Option Addr} {n cap B : Nat} {v v2 : Value} {L2 : List Ln} (h : Ap w s e a n cap B t v x) (hb : Below x.heap.size x y) (ho : OwnL y x.heap.size v2 L2) : Ap w s e a n cap B { t with lines := L2 } v2 (y.setCell ⟨B, 5, none⟩ v2) := by
  have hk := h.keep hb
  have hB := h.lo
  have hbel : Below w.heap.size w (y.setCell ⟨B, 5, none⟩ v2) := hk.se.bel.setCell (p := ⟨B, 5, none⟩) (by show w.heap.size ≤ B; omega) _
  refine ⟨⟨?_, ?_, h.old.keep hbel, hbel⟩, ?_, St.setTo hk.tb 5 v2 rfl, ?_, h.lo, h.old⟩
  · exact (heap_setCell_other y ⟨B, 5, none⟩ w.heap.size v2 (by show w.heap.size ≠ B; omega)).trans hk.se.st
  · exact (heap_setCell_other y ⟨B, 5, none⟩ (w.heap.size + 1) v2 (by show w.heap.size + 1 ≠ B; omega)).trans hk.se.ev
  · exact (heap_setCell_other y ⟨B, 5, none⟩ (w.heap.size + 2) v2 (by show w.heap.size + 2 ≠ B; omega)).trans hk.res
  · exact (ho.mono h.se.bel.size).setOther _ _ (own_st_ne ho hk.tb)
set_option maxRecDepth 20000 in
set_option maxHeartbeats 16000000 in
theorem rapply_2 (s : St) (e : Ev) (a : Option Addr) (n cap : Nat) (w : World) (hn : s.lines.length = n) (hl : Lns w a s.lines) (hm : n * 32 ≤ 140737488351232) (hj : judS s e = 0) (hk : e.kind = 2) :
    Calls Tryz.prog 7 #[.agg (stA s (.slice a n cap)), .agg (evA e)] w fun r w' => ApplyPost (nextS s e) (judS s e) w r w' := by
  obtain ⟨W, hW, h1, h2, h3, h4⟩ := t3_new w s e (.slice a n cap)
  have HN : Hid (s.lines.length = n) := hn
  have hlm : n ≤ maxLen := by unfold maxLen; omega
  have HW1 : Hid (StAt W w.heap.size s (.slice a n cap) ∧ EvAt W (w.heap.size + 1) e ∧ StAt W (w.heap.size + 2) zeroS (.slice none 0 0) ∧ Below w.heap.size w W) := ⟨h1, h2, h3, h4⟩
  have HLW0 : Hid (Lns w a s.lines) := hl
  have HLW : Hid (Lns W a s.lines) := hl.keep h4
  obtain ⟨j, hjj⟩ : ∃ j, judS s e = j := ⟨_, rfl⟩
  have HJ : Hid (judS s e = j) := hjj
  have T1 : Hid True := trivial
  have T2 : Hid True := trivial
  have T3 : Hid True := trivial
  have hf : nextS s e = fineS s e := by unfold nextS; rw [if_neg (by rw [hj]; decide), if_pos hj]
  have hp := vl_of (jud_parts (s := s) (e := e) (by rw [hj]; decide)).1
  have he1 := hp.e1
  have he2 := hp.e2
  have hpr := right_of (jud_parts (s := s) (e := e) (by rw [hj]; decide)).2.1
  have pp0 : 0 ≤ e.price := hpr.price0
  have pp1 : e.price ≤ 1000000000000000 := by have := hpr.price1; have h5 : hiP 5 ≤ 1000000000000000 := (by decide); omega
  have pd0 : 0 ≤ s.refunded := hp.f1
  have pd1 : s.refunded ≤ s.paid := hp.f2
  have pd2 : s.paid ≤ 240000000000000 := by have := hp.p2; have := (vld_due (vl_to hp)).2.2.2.2.2.2.2; omega
  rw [hjj] at hj
  subst hj
  rw [hf, hjj]
  have HK : Hid (e.kind = 2) := hk
  have hLB := (vl_of (jud_parts (s := s) (e := e) (by rw [hjj]; decide)).1).lines
  have h16 : n ≤ 16 := by have := (linesB_from hLB).1; omega
  have HQ : Hid (∀ (k : Nat) (p : Ln), s.lines[k]? = some p → 1 ≤ p.qty ∧ p.qty ≤ 100000) := fun k p hp => by have := (linesB_facts hLB).2 k p hp; omega
  have qq0 : 0 ≤ e.qty := by have := hpr.qty0; simpa [loQ] using this
  have qq1 : e.qty ≤ 10000 := hpr.qty1
  have hrf : refR s e = 0 := by
    have h7 := (jud_rest (s := s) (e := e) (by rw [hjj]; decide) (by rw [hjj]; decide)).2
    rw [hjj] at h7
    split at h7
    · rename_i h8; exact absurd h7.symm h8
    · exact h7.symm
  have hqn : 1 ≤ e.qty := by
    have h8 : refAdd s e = 0 := by rw [← hrf]; unfold refR; simp [hk]
    unfold refAdd at h8
    split at h8
    · cases h8
    · omega
  have HWL : Hid (wthL s.lines e.item e.price e.qty = addL s.lines e) := wth_add hLB hqn
  clear hrf hLB
  by_cases hst : s.stamp < e.stamp
  · have gst : decide (s.stamp < e.stamp) = true := by simpa using hst
    cases hw : e.who.toList == [] with
    | true =>
      have hR : fineS s e = { s with events := (s.events + 1), stamp := e.stamp, lines := (addL s.lines e) } := by simp [fineS, doS, hk, hst, hw]
      rw [hR]
      clear hn hl hR hjj h1 h2 h3 h4 hp hpr hf hk
      go_enter Tryz.func7, Tryz.ntmps7
      go_wp2_with (first
            | ((with_reducible refine guard_load 25 ?_); clear T1; refine wpList_load_st rfl _ rfl HW1.out.1 rfl ?_)
            | (go_at_call 6; refine (scopy_any s a n cap _ HN.out HLW.out hm).mono ?_; rintro _ x2 ⟨v2, rfl, ho2, hb2⟩; obtain ⟨a2, c2, hv2, _, _, hl2, _⟩ := ho2.shape; simp only [HN.out] at hv2; subst hv2; have HX2 : Hid (OwnL x2 W.heap.size (.slice a2 n c2) s.lines ∧ Below W.heap.size W x2) := ⟨ho2, hb2⟩; clear hb2 ho2 hl2)
            | ((with_reducible refine guard_store 25 ?_); clear T2; refine wpList_store_st (s := zeroS) (s2 := s) (a2 := a2) (n2 := n) (c2 := c2) rfl _ _ rfl (StAt.new x2 zeroS (.slice none 0 0)) rfl rfl ?_; intro x3 z1 z2 z3 z4; have HA3 : Hid (Ap w s e a n cap x2.heap.size s (.slice a2 n c2) x3) := Ap.start HW1.out HLW0.out HX2.out.1 HX2.out.2 z1 (z2 _ _ ((Below.refl x2.heap.size x2).alloc (Nat.le_refl _) _) (Nat.le_refl _)); clear z1 z2 z3 z4)
            | ((with_reducible refine guard_load 25 ?_); clear T3; refine wpList_load_st rfl _ rfl HA3.out.se.st rfl ?_)
            | ((with_reducible refine guard_load 28 ?_); refine wpList_load_ev rfl _ rfl HA3.out.se.ev rfl ?_)
            | (go_at_call 15; refine (rjudge_any s e a n cap _ HN.out HA3.out.se.ln hlm).mono ?_; rw [HJ.out]; rintro _ x4 ⟨rfl, hb4⟩; have HA4 : Hid (Ap w s e a n cap x2.heap.size s (.slice a2 n c2) x4) := Ap.keep HA3.out hb4; clear hb4; have s5_8 := HA4.out.se.st.cell 8 (.int .i64 s.events) rfl; have t5 := HA4.out.tb.cell 8 (.int .i64 s.events) rfl; have u5 := HA4.out.tb.froz 8; have HA5 : Hid (Ap w s e a n cap x2.heap.size { s with events := (s.events + 1) } (.slice a2 n c2) (x4.setCell ⟨x2.heap.size, 8, none⟩ (.int .i64 (s.events + 1)))) := Ap.set HA4.out 8 _ rfl rfl; have s6_10 := HA5.out.se.st.cell 10 (.int .i64 s.stamp) rfl; have v6_8 := HA5.out.se.ev.cell 8 (.int .i64 e.stamp) rfl; have t6 := HA5.out.tb.cell 10 (.int .i64 s.stamp) rfl; have u6 := HA5.out.tb.froz 10; have HA6 : Hid (Ap w s e a n cap x2.heap.size { s with events := (s.events + 1), stamp := e.stamp } (.slice a2 n c2) ((x4.setCell ⟨x2.heap.size, 8, none⟩ (.int .i64 (s.events + 1))).setCell ⟨x2.heap.size, 10, none⟩ (.int .i64 e.stamp))) := Ap.set HA5.out 10 _ rfl rfl; have v7_7 := HA6.out.se.ev.cell 7 (.string e.who) rfl; have kk := (SE.cs HA6.out.se HK.out).2.2.2.2.2.2.1; have qc := HA6.out.se.ev.cell 3 (.int .i64 e.qty) rfl; have T4 : Hid True := trivial)
            | ((with_reducible refine guard_load 25 ?_); clear T4; refine wpList_load_st rfl _ rfl HA6.out.se.st rfl ?_)
            | ((with_reducible refine guard_load 28 ?_); refine wpList_load_ev rfl _ rfl HA6.out.se.ev rfl ?_)
            | (go_at_call 16; refine (rwith_any s e e.qty a n cap _ HN.out HA6.out.se.ln h16 HQ.out (by omega) (by omega)).mono ?_; rw [HWL.out]; rintro _ x6 ⟨v6, rfl, ho6, hb6⟩; obtain ⟨a6, c6, hv6, _⟩ := ho6.shape; obtain ⟨m6, hm6⟩ : ∃ m6, (addL s.lines e).length = m6 := ⟨_, rfl⟩; rw [hm6] at hv6; subst hv6; have hb7 := (HA6.out.tb.after hb6).cell 5 (.slice a2 n c2) rfl; have hf7 := (HA6.out.tb.after hb6).froz 5; have HA20 : Hid (Ap w s e a n cap x2.heap.size { s with events := (s.events + 1), stamp := e.stamp, lines := (addL s.lines e) } (.slice a6 m6 c6) (x6.setCell ⟨x2.heap.size, 5, none⟩ (.slice a6 m6 c6))) := Ap.lines (L2 := addL s.lines e) HA6.out hb6 ho6; clear hb6 ho6 hm6)
            | ((with_reducible refine guard_load 25 ?_); refine wpList_load_st rfl _ rfl HA20.out.tb rfl ?_)
            | ((with_reducible refine guard_store 25 ?_); refine wpList_store_st (s := zeroS) (s2 := { s with events := (s.events + 1), stamp := e.stamp, lines := (addL s.lines e) }) (a2 := a6) (n2 := m6) (c2 := c6) rfl _ _ rfl HA20.out.res rfl rfl ?_; intro x9 z1 z2 z3 z4))
      refine bodyPost_ret (results_st2 rfl _ _ _ _ rfl rfl z1) rfl ⟨a6, m6, c6, rfl, ?_⟩
      exact HA20.out.done z2 z3
    | false =>
      have hR : fineS s e = { s with events := (s.events + 1), stamp := e.stamp, who := e.who, lines := (addL s.lines e) } := by simp [fineS, doS, hk, hst, hw]
      rw [hR]
      clear hn hl hR hjj h1 h2 h3 h4 hp hpr hf hk
      go_enter Tryz.func7, Tryz.ntmps7
      go_wp2_with (first
            | ((with_reducible refine guard_load 25 ?_); clear T1; refine wpList_load_st rfl _ rfl HW1.out.1 rfl ?_)
            | (go_at_call 6; refine (scopy_any s a n cap _ HN.out HLW.out hm).mono ?_; rintro _ x2 ⟨v2, rfl, ho2, hb2⟩; obtain ⟨a2, c2, hv2, _, _, hl2, _⟩ := ho2.shape; simp only [HN.out] at hv2; subst hv2; have HX2 : Hid (OwnL x2 W.heap.size (.slice a2 n c2) s.lines ∧ Below W.heap.size W x2) := ⟨ho2, hb2⟩; clear hb2 ho2 hl2)
            | ((with_reducible refine guard_store 25 ?_); clear T2; refine wpList_store_st (s := zeroS) (s2 := s) (a2 := a2) (n2 := n) (c2 := c2) rfl _ _ rfl (StAt.new x2 zeroS (.slice none 0 0)) rfl rfl ?_; intro x3 z1 z2 z3 z4; have HA3 : Hid (Ap w s e a n cap x2.heap.size s (.slice a2 n c2) x3) := Ap.start HW1.out HLW0.out HX2.out.1 HX2.out.2 z1 (z2 _ _ ((Below.refl x2.heap.size x2).alloc (Nat.le_refl _) _) (Nat.le_refl _)); clear z1 z2 z3 z4)
            | ((with_reducible refine guard_load 25 ?_); clear T3; refine wpList_load_st rfl _ rfl HA3.out.se.st rfl ?_)
            | ((with_reducible refine guard_load 28 ?_); refine wpList_load_ev rfl _ rfl HA3.out.se.ev rfl ?_)
            | (go_at_call 15; refine (rjudge_any s e a n cap _ HN.out HA3.out.se.ln hlm).mono ?_; rw [HJ.out]; rintro _ x4 ⟨rfl, hb4⟩; have HA4 : Hid (Ap w s e a n cap x2.heap.size s (.slice a2 n c2) x4) := Ap.keep HA3.out hb4; clear hb4; have s5_8 := HA4.out.se.st.cell 8 (.int .i64 s.events) rfl; have t5 := HA4.out.tb.cell 8 (.int .i64 s.events) rfl; have u5 := HA4.out.tb.froz 8; have HA5 : Hid (Ap w s e a n cap x2.heap.size { s with events := (s.events + 1) } (.slice a2 n c2) (x4.setCell ⟨x2.heap.size, 8, none⟩ (.int .i64 (s.events + 1)))) := Ap.set HA4.out 8 _ rfl rfl; have s6_10 := HA5.out.se.st.cell 10 (.int .i64 s.stamp) rfl; have v6_8 := HA5.out.se.ev.cell 8 (.int .i64 e.stamp) rfl; have t6 := HA5.out.tb.cell 10 (.int .i64 s.stamp) rfl; have u6 := HA5.out.tb.froz 10; have HA6 : Hid (Ap w s e a n cap x2.heap.size { s with events := (s.events + 1), stamp := e.stamp } (.slice a2 n c2) ((x4.setCell ⟨x2.heap.size, 8, none⟩ (.int .i64 (s.events + 1))).setCell ⟨x2.heap.size, 10, none⟩ (.int .i64 e.stamp))) := Ap.set HA5.out 10 _ rfl rfl; have v7_7 := HA6.out.se.ev.cell 7 (.string e.who) rfl; have t7 := HA6.out.tb.cell 11 (.string s.who) rfl; have u7 := HA6.out.tb.froz 11; have HA7 : Hid (Ap w s e a n cap x2.heap.size { s with events := (s.events + 1), stamp := e.stamp, who := e.who } (.slice a2 n c2) (((x4.setCell ⟨x2.heap.size, 8, none⟩ (.int .i64 (s.events + 1))).setCell ⟨x2.heap.size, 10, none⟩ (.int .i64 e.stamp)).setCell ⟨x2.heap.size, 11, none⟩ (.string e.who))) := Ap.set HA6.out 11 _ rfl rfl; have kk := (SE.cs HA7.out.se HK.out).2.2.2.2.2.2.1; have qc := HA7.out.se.ev.cell 3 (.int .i64 e.qty) rfl; have T4 : Hid True := trivial)
            | ((with_reducible refine guard_load 25 ?_); clear T4; refine wpList_load_st rfl _ rfl HA7.out.se.st rfl ?_)
            | ((with_reducible refine guard_load 28 ?_); refine wpList_load_ev rfl _ rfl HA7.out.se.ev rfl ?_)
            | (go_at_call 16; refine (rwith_any s e e.qty a n cap _ HN.out HA7.out.se.ln h16 HQ.out (by omega) (by omega)).mono ?_; rw [HWL.out]; rintro _ x6 ⟨v6, rfl, ho6, hb6⟩; obtain ⟨a6, c6, hv6, _⟩ := ho6.shape; obtain ⟨m6, hm6⟩ : ∃ m6, (addL s.lines e).length = m6 := ⟨_, rfl⟩; rw [hm6] at hv6; subst hv6; have hb7 := (HA7.out.tb.after hb6).cell 5 (.slice a2 n c2) rfl; have hf7 := (HA7.out.tb.after hb6).froz 5; have HA20 : Hid (Ap w s e a n cap x2.heap.size { s with events := (s.events + 1), stamp := e.stamp, who := e.who, lines := (addL s.lines e) } (.slice a6 m6 c6) (x6.setCell ⟨x2.heap.size, 5, none⟩ (.slice a6 m6 c6))) := Ap.lines (L2 := addL s.lines e) HA7.out hb6 ho6; clear hb6 ho6 hm6)
            | ((with_reducible refine guard_load 25 ?_); refine wpList_load_st rfl _ rfl HA20.out.tb rfl ?_)
            | ((with_reducible refine guard_store 25 ?_); refine wpList_store_st (s := zeroS) (s2 := { s with events := (s.events + 1), stamp := e.stamp, who := e.who, lines := (addL s.lines e) }) (a2 := a6) (n2 := m6) (c2 := c6) rfl _ _ rfl HA20.out.res rfl rfl ?_; intro x9 z1 z2 z3 z4))
      refine bodyPost_ret (results_st2 rfl _ _ _ _ rfl rfl z1) rfl ⟨a6, m6, c6, rfl, ?_⟩
      exact HA20.out.done z2 z3
  · have gst : decide (s.stamp < e.stamp) = false := by simpa using hst
    cases hw : e.who.toList == [] with
    | true =>
      have hR : fineS s e = { s with events := (s.events + 1), lines := (addL s.lines e) } := by simp [fineS, doS, hk, hst, hw]
      rw [hR]
      clear hn hl hR hjj h1 h2 h3 h4 hp hpr hf hk
      go_enter Tryz.func7, Tryz.ntmps7
      go_wp2_with (first
            | ((with_reducible refine guard_load 25 ?_); clear T1; refine wpList_load_st rfl _ rfl HW1.out.1 rfl ?_)
            | (go_at_call 6; refine (scopy_any s a n cap _ HN.out HLW.out hm).mono ?_; rintro _ x2 ⟨v2, rfl, ho2, hb2⟩; obtain ⟨a2, c2, hv2, _, _, hl2, _⟩ := ho2.shape; simp only [HN.out] at hv2; subst hv2; have HX2 : Hid (OwnL x2 W.heap.size (.slice a2 n c2) s.lines ∧ Below W.heap.size W x2) := ⟨ho2, hb2⟩; clear hb2 ho2 hl2)
            | ((with_reducible refine guard_store 25 ?_); clear T2; refine wpList_store_st (s := zeroS) (s2 := s) (a2 := a2) (n2 := n) (c2 := c2) rfl _ _ rfl (StAt.new x2 zeroS (.slice none 0 0)) rfl rfl ?_; intro x3 z1 z2 z3 z4; have HA3 : Hid (Ap w s e a n cap x2.heap.size s (.slice a2 n c2) x3) := Ap.start HW1.out HLW0.out HX2.out.1 HX2.out.2 z1 (z2 _ _ ((Below.refl x2.heap.size x2).alloc (Nat.le_refl _) _) (Nat.le_refl _)); clear z1 z2 z3 z4)
            | ((with_reducible refine guard_load 25 ?_); clear T3; refine wpList_load_st rfl _ rfl HA3.out.se.st rfl ?_)
            | ((with_reducible refine guard_load 28 ?_); refine wpList_load_ev rfl _ rfl HA3.out.se.ev rfl ?_)
            | (go_at_call 15; refine (rjudge_any s e a n cap _ HN.out HA3.out.se.ln hlm).mono ?_; rw [HJ.out]; rintro _ x4 ⟨rfl, hb4⟩; have HA4 : Hid (Ap w s e a n cap x2.heap.size s (.slice a2 n c2) x4) := Ap.keep HA3.out hb4; clear hb4; have s5_8 := HA4.out.se.st.cell 8 (.int .i64 s.events) rfl; have t5 := HA4.out.tb.cell 8 (.int .i64 s.events) rfl; have u5 := HA4.out.tb.froz 8; have HA5 : Hid (Ap w s e a n cap x2.heap.size { s with events := (s.events + 1) } (.slice a2 n c2) (x4.setCell ⟨x2.heap.size, 8, none⟩ (.int .i64 (s.events + 1)))) := Ap.set HA4.out 8 _ rfl rfl; have s6_10 := HA5.out.se.st.cell 10 (.int .i64 s.stamp) rfl; have v6_8 := HA5.out.se.ev.cell 8 (.int .i64 e.stamp) rfl; have v7_7 := HA5.out.se.ev.cell 7 (.string e.who) rfl; have kk := (SE.cs HA5.out.se HK.out).2.2.2.2.2.2.1; have qc := HA5.out.se.ev.cell 3 (.int .i64 e.qty) rfl; have T4 : Hid True := trivial)
            | ((with_reducible refine guard_load 25 ?_); clear T4; refine wpList_load_st rfl _ rfl HA5.out.se.st rfl ?_)
            | ((with_reducible refine guard_load 28 ?_); refine wpList_load_ev rfl _ rfl HA5.out.se.ev rfl ?_)
            | (go_at_call 16; refine (rwith_any s e e.qty a n cap _ HN.out HA5.out.se.ln h16 HQ.out (by omega) (by omega)).mono ?_; rw [HWL.out]; rintro _ x6 ⟨v6, rfl, ho6, hb6⟩; obtain ⟨a6, c6, hv6, _⟩ := ho6.shape; obtain ⟨m6, hm6⟩ : ∃ m6, (addL s.lines e).length = m6 := ⟨_, rfl⟩; rw [hm6] at hv6; subst hv6; have hb7 := (HA5.out.tb.after hb6).cell 5 (.slice a2 n c2) rfl; have hf7 := (HA5.out.tb.after hb6).froz 5; have HA20 : Hid (Ap w s e a n cap x2.heap.size { s with events := (s.events + 1), lines := (addL s.lines e) } (.slice a6 m6 c6) (x6.setCell ⟨x2.heap.size, 5, none⟩ (.slice a6 m6 c6))) := Ap.lines (L2 := addL s.lines e) HA5.out hb6 ho6; clear hb6 ho6 hm6)
            | ((with_reducible refine guard_load 25 ?_); refine wpList_load_st rfl _ rfl HA20.out.tb rfl ?_)
            | ((with_reducible refine guard_store 25 ?_); refine wpList_store_st (s := zeroS) (s2 := { s with events := (s.events + 1), lines := (addL s.lines e) }) (a2 := a6) (n2 := m6) (c2 := c6) rfl _ _ rfl HA20.out.res rfl rfl ?_; intro x9 z1 z2 z3 z4))
      refine bodyPost_ret (results_st2 rfl _ _ _ _ rfl rfl z1) rfl ⟨a6, m6, c6, rfl, ?_⟩
      exact HA20.out.done z2 z3
    | false =>
      have hR : fineS s e = { s with events := (s.events + 1), who := e.who, lines := (addL s.lines e) } := by simp [fineS, doS, hk, hst, hw]
      rw [hR]
      clear hn hl hR hjj h1 h2 h3 h4 hp hpr hf hk
      go_enter Tryz.func7, Tryz.ntmps7
      go_wp2_with (first
            | ((with_reducible refine guard_load 25 ?_); clear T1; refine wpList_load_st rfl _ rfl HW1.out.1 rfl ?_)
            | (go_at_call 6; refine (scopy_any s a n cap _ HN.out HLW.out hm).mono ?_; rintro _ x2 ⟨v2, rfl, ho2, hb2⟩; obtain ⟨a2, c2, hv2, _, _, hl2, _⟩ := ho2.shape; simp only [HN.out] at hv2; subst hv2; have HX2 : Hid (OwnL x2 W.heap.size (.slice a2 n c2) s.lines ∧ Below W.heap.size W x2) := ⟨ho2, hb2⟩; clear hb2 ho2 hl2)
            | ((with_reducible refine guard_store 25 ?_); clear T2; refine wpList_store_st (s := zeroS) (s2 := s) (a2 := a2) (n2 := n) (c2 := c2) rfl _ _ rfl (StAt.new x2 zeroS (.slice none 0 0)) rfl rfl ?_; intro x3 z1 z2 z3 z4; have HA3 : Hid (Ap w s e a n cap x2.heap.size s (.slice a2 n c2) x3) := Ap.start HW1.out HLW0.out HX2.out.1 HX2.out.2 z1 (z2 _ _ ((Below.refl x2.heap.size x2).alloc (Nat.le_refl _) _) (Nat.le_refl _)); clear z1 z2 z3 z4)
            | ((with_reducible refine guard_load 25 ?_); clear T3; refine wpList_load_st rfl _ rfl HA3.out.se.st rfl ?_)
            | ((with_reducible refine guard_load 28 ?_); refine wpList_load_ev rfl _ rfl HA3.out.se.ev rfl ?_)
            | (go_at_call 15; refine (rjudge_any s e a n cap _ HN.out HA3.out.se.ln hlm).mono ?_; rw [HJ.out]; rintro _ x4 ⟨rfl, hb4⟩; have HA4 : Hid (Ap w s e a n cap x2.heap.size s (.slice a2 n c2) x4) := Ap.keep HA3.out hb4; clear hb4; have s5_8 := HA4.out.se.st.cell 8 (.int .i64 s.events) rfl; have t5 := HA4.out.tb.cell 8 (.int .i64 s.events) rfl; have u5 := HA4.out.tb.froz 8; have HA5 : Hid (Ap w s e a n cap x2.heap.size { s with events := (s.events + 1) } (.slice a2 n c2) (x4.setCell ⟨x2.heap.size, 8, none⟩ (.int .i64 (s.events + 1)))) := Ap.set HA4.out 8 _ rfl rfl; have s6_10 := HA5.out.se.st.cell 10 (.int .i64 s.stamp) rfl; have v6_8 := HA5.out.se.ev.cell 8 (.int .i64 e.stamp) rfl; have v7_7 := HA5.out.se.ev.cell 7 (.string e.who) rfl; have t7 := HA5.out.tb.cell 11 (.string s.who) rfl; have u7 := HA5.out.tb.froz 11; have HA7 : Hid (Ap w s e a n cap x2.heap.size { s with events := (s.events + 1), who := e.who } (.slice a2 n c2) ((x4.setCell ⟨x2.heap.size, 8, none⟩ (.int .i64 (s.events + 1))).setCell ⟨x2.heap.size, 11, none⟩ (.string e.who))) := Ap.set HA5.out 11 _ rfl rfl; have kk := (SE.cs HA7.out.se HK.out).2.2.2.2.2.2.1; have qc := HA7.out.se.ev.cell 3 (.int .i64 e.qty) rfl; have T4 : Hid True := trivial)
            | ((with_reducible refine guard_load 25 ?_); clear T4; refine wpList_load_st rfl _ rfl HA7.out.se.st rfl ?_)
            | ((with_reducible refine guard_load 28 ?_); refine wpList_load_ev rfl _ rfl HA7.out.se.ev rfl ?_)
            | (go_at_call 16; refine (rwith_any s e e.qty a n cap _ HN.out HA7.out.se.ln h16 HQ.out (by omega) (by omega)).mono ?_; rw [HWL.out]; rintro _ x6 ⟨v6, rfl, ho6, hb6⟩; obtain ⟨a6, c6, hv6, _⟩ := ho6.shape; obtain ⟨m6, hm6⟩ : ∃ m6, (addL s.lines e).length = m6 := ⟨_, rfl⟩; rw [hm6] at hv6; subst hv6; have hb7 := (HA7.out.tb.after hb6).cell 5 (.slice a2 n c2) rfl; have hf7 := (HA7.out.tb.after hb6).froz 5; have HA20 : Hid (Ap w s e a n cap x2.heap.size { s with events := (s.events + 1), who := e.who, lines := (addL s.lines e) } (.slice a6 m6 c6) (x6.setCell ⟨x2.heap.size, 5, none⟩ (.slice a6 m6 c6))) := Ap.lines (L2 := addL s.lines e) HA7.out hb6 ho6; clear hb6 ho6 hm6)
            | ((with_reducible refine guard_load 25 ?_); refine wpList_load_st rfl _ rfl HA20.out.tb rfl ?_)
            | ((with_reducible refine guard_store 25 ?_); refine wpList_store_st (s := zeroS) (s2 := { s with events := (s.events + 1), who := e.who, lines := (addL s.lines e) }) (a2 := a6) (n2 := m6) (c2 := c6) rfl _ _ rfl HA20.out.res rfl rfl ?_; intro x9 z1 z2 z3 z4))
      refine bodyPost_ret (results_st2 rfl _ _ _ _ rfl rfl z1) rfl ⟨a6, m6, c6, rfl, ?_⟩
      exact HA20.out.done z2 z3
end Go.Proofs.YtldbdhhbmnbmaaaGreat
namespace Go.Proofs.YtldbdhhbmnbmaaaGreat
open Go.ChangeShapes Go.WideShapes Go.ChangeAt Go.RowKit
set_option linter.unusedVariables false
set_option linter.unusedSimpArgs false
theorem Ap.lines6 {w x y : World} {s t : St} {e : Ev} {a : Option Addr} {n cap B : Nat} {v v2 : Value} {L2 : List Ln} (h : Ap w s e a n cap B t v x) (hb : Below x.heap.size x y) (ho : OwnL y x.heap.size v2 L2) : Ap w s e a n cap B { t with lines := L2 } v2 (y.setCell ⟨B, 5, none⟩ v2) := by
  have hk := h.keep hb
  have hB := h.lo
  have hbel : Below w.heap.size w (y.setCell ⟨B, 5, none⟩ v2) := hk.se.bel.setCell (p := ⟨B, 5, none⟩) (by show w.heap.size ≤ B; omega) _
  refine ⟨⟨?_, ?_, h.old.keep hbel, hbel⟩, ?_, St.setTo hk.tb 5 v2 rfl, ?_, h.lo, h.old⟩
  · exact (heap_setCell_other y ⟨B, 5, none⟩ w.heap.size v2 (by show w.heap.size ≠ B; omega)).trans hk.se.st
  · exact (heap_setCell_other y ⟨B, 5, none⟩ (w.heap.size + 1) v2 (by show w.heap.size + 1 ≠ B; omega)).trans hk.se.ev
  · exact (heap_setCell_other y ⟨B, 5, none⟩ (w.heap.size + 2) v2 (by show w.heap.size + 2 ≠ B; omega)).trans hk.res
  · exact (ho.mono h.se.bel.size).setOther _ _ (own_st_ne ho hk.tb)
set_option maxRecDepth 20000 in
set_option maxHeartbeats 16000000 in
theorem rapply_6 (s : St) (e : Ev) (a : Option Addr) (n cap : Nat) (w : World) (hn : s.lines.length = n) (hl : Lns w a s.lines) (hm : n * 32 ≤ 140737488351232) (hj : judS s e = 0) (hk : e.kind = 6) :
    Calls Tryz.prog 7 #[.agg (stA s (.slice a n cap)), .agg (evA e)] w fun r w' => ApplyPost (nextS s e) (judS s e) w r w' := by
  obtain ⟨W, hW, h1, h2, h3, h4⟩ := t3_new w s e (.slice a n cap)
  have HN : Hid (s.lines.length = n) := hn
  have hlm : n ≤ maxLen := by unfold maxLen; omega
  have HW1 : Hid (StAt W w.heap.size s (.slice a n cap) ∧ EvAt W (w.heap.size + 1) e ∧ StAt W (w.heap.size + 2) zeroS (.slice none 0 0) ∧ Below w.heap.size w W) := ⟨h1, h2, h3, h4⟩
  have HLW0 : Hid (Lns w a s.lines) := hl
  have HLW : Hid (Lns W a s.lines) := hl.keep h4
  obtain ⟨j, hjj⟩ : ∃ j, judS s e = j := ⟨_, rfl⟩
  have HJ : Hid (judS s e = j) := hjj
  have T1 : Hid True := trivial
  have T2 : Hid True := trivial
  have T3 : Hid True := trivial
  have hf : nextS s e = fineS s e := by unfold nextS; rw [if_neg (by rw [hj]; decide), if_pos hj]
  have hp := vl_of (jud_parts (s := s) (e := e) (by rw [hj]; decide)).1
  have he1 := hp.e1
  have he2 := hp.e2
  have hpr := right_of (jud_parts (s := s) (e := e) (by rw [hj]; decide)).2.1
  have pp0 : 0 ≤ e.price := hpr.price0
  have pp1 : e.price ≤ 1000000000000000 := by have := hpr.price1; have h5 : hiP 5 ≤ 1000000000000000 := (by decide); omega
  have pd0 : 0 ≤ s.refunded := hp.f1
  have pd1 : s.refunded ≤ s.paid := hp.f2
  have pd2 : s.paid ≤ 240000000000000 := by have := hp.p2; have := (vld_due (vl_to hp)).2.2.2.2.2.2.2; omega
  rw [hjj] at hj
  subst hj
  rw [hf, hjj]
  have HK : Hid (e.kind = 6) := hk
  have hLB := (vl_of (jud_parts (s := s) (e := e) (by rw [hjj]; decide)).1).lines
  have h16 : n ≤ 16 := by have := (linesB_from hLB).1; omega
  have HQ : Hid (∀ (k : Nat) (p : Ln), s.lines[k]? = some p → 1 ≤ p.qty ∧ p.qty ≤ 100000) := fun k p hp => by have := (linesB_facts hLB).2 k p hp; omega
  have qq0 : 0 ≤ e.qty := by have := hpr.qty0; simpa [loQ] using this
  have qq1 : e.qty ≤ 10000 := hpr.qty1
  have hrf : refR s e = 0 := by
    have h7 := (jud_rest (s := s) (e := e) (by rw [hjj]; decide) (by rw [hjj]; decide)).2
    rw [hjj] at h7
    split at h7
    · rename_i h8; exact absurd h7.symm h8
    · exact h7.symm
  have HWL : Hid (wthL s.lines e.item e.price (-e.qty) = dropL s.lines e) := by
    rw [← Int.zero_sub]
    have h8 : refTake (fun p => p.qty) s e = 0 := by rw [← hrf]; unfold refR; simp [hk]
    unfold refTake at h8
    split at h8
    · cases h8
    · split at h8
      · rename_i p hp
        split at h8
        · cases h8
        · exact wth_drop hLB hp (by rename_i hq8; have hq9 : ¬ p.qty < e.qty := hq8; omega)
      · cases h8
  clear hrf hLB
  by_cases hst : s.stamp < e.stamp
  · have gst : decide (s.stamp < e.stamp) = true := by simpa using hst
    cases hw : e.who.toList == [] with
    | true =>
      have hR : fineS s e = { s with events := (s.events + 1), stamp := e.stamp, lines := (dropL s.lines e) } := by simp [fineS, doS, hk, hst, hw]
      rw [hR]
      clear hn hl hR hjj h1 h2 h3 h4 hp hpr hf hk
      go_enter Tryz.func7, Tryz.ntmps7
      go_wp2_with (first
            | ((with_reducible refine guard_load 25 ?_); clear T1; refine wpList_load_st rfl _ rfl HW1.out.1 rfl ?_)
            | (go_at_call 6; refine (scopy_any s a n cap _ HN.out HLW.out hm).mono ?_; rintro _ x2 ⟨v2, rfl, ho2, hb2⟩; obtain ⟨a2, c2, hv2, _, _, hl2, _⟩ := ho2.shape; simp only [HN.out] at hv2; subst hv2; have HX2 : Hid (OwnL x2 W.heap.size (.slice a2 n c2) s.lines ∧ Below W.heap.size W x2) := ⟨ho2, hb2⟩; clear hb2 ho2 hl2)
            | ((with_reducible refine guard_store 25 ?_); clear T2; refine wpList_store_st (s := zeroS) (s2 := s) (a2 := a2) (n2 := n) (c2 := c2) rfl _ _ rfl (StAt.new x2 zeroS (.slice none 0 0)) rfl rfl ?_; intro x3 z1 z2 z3 z4; have HA3 : Hid (Ap w s e a n cap x2.heap.size s (.slice a2 n c2) x3) := Ap.start HW1.out HLW0.out HX2.out.1 HX2.out.2 z1 (z2 _ _ ((Below.refl x2.heap.size x2).alloc (Nat.le_refl _) _) (Nat.le_refl _)); clear z1 z2 z3 z4)
            | ((with_reducible refine guard_load 25 ?_); clear T3; refine wpList_load_st rfl _ rfl HA3.out.se.st rfl ?_)
            | ((with_reducible refine guard_load 28 ?_); refine wpList_load_ev rfl _ rfl HA3.out.se.ev rfl ?_)
            | (go_at_call 15; refine (rjudge_any s e a n cap _ HN.out HA3.out.se.ln hlm).mono ?_; rw [HJ.out]; rintro _ x4 ⟨rfl, hb4⟩; have HA4 : Hid (Ap w s e a n cap x2.heap.size s (.slice a2 n c2) x4) := Ap.keep HA3.out hb4; clear hb4; have s5_8 := HA4.out.se.st.cell 8 (.int .i64 s.events) rfl; have t5 := HA4.out.tb.cell 8 (.int .i64 s.events) rfl; have u5 := HA4.out.tb.froz 8; have HA5 : Hid (Ap w s e a n cap x2.heap.size { s with events := (s.events + 1) } (.slice a2 n c2) (x4.setCell ⟨x2.heap.size, 8, none⟩ (.int .i64 (s.events + 1)))) := Ap.set HA4.out 8 _ rfl rfl; have s6_10 := HA5.out.se.st.cell 10 (.int .i64 s.stamp) rfl; have v6_8 := HA5.out.se.ev.cell 8 (.int .i64 e.stamp) rfl; have t6 := HA5.out.tb.cell 10 (.int .i64 s.stamp) rfl; have u6 := HA5.out.tb.froz 10; have HA6 : Hid (Ap w s e a n cap x2.heap.size { s with events := (s.events + 1), stamp := e.stamp } (.slice a2 n c2) ((x4.setCell ⟨x2.heap.size, 8, none⟩ (.int .i64 (s.events + 1))).setCell ⟨x2.heap.size, 10, none⟩ (.int .i64 e.stamp))) := Ap.set HA5.out 10 _ rfl rfl; have v7_7 := HA6.out.se.ev.cell 7 (.string e.who) rfl; have kk := (SE.cs HA6.out.se HK.out).2.2.2.2.2.2.1; have qc := HA6.out.se.ev.cell 3 (.int .i64 e.qty) rfl; have T4 : Hid True := trivial)
            | ((with_reducible refine guard_load 25 ?_); clear T4; refine wpList_load_st rfl _ rfl HA6.out.se.st rfl ?_)
            | ((with_reducible refine guard_load 28 ?_); refine wpList_load_ev rfl _ rfl HA6.out.se.ev rfl ?_)
            | (go_at_call 16; refine (rwith_any s e (-e.qty) a n cap _ HN.out HA6.out.se.ln h16 HQ.out (by omega) (by omega)).mono ?_; rw [HWL.out]; rintro _ x6 ⟨v6, rfl, ho6, hb6⟩; obtain ⟨a6, c6, hv6, _⟩ := ho6.shape; obtain ⟨m6, hm6⟩ : ∃ m6, (dropL s.lines e).length = m6 := ⟨_, rfl⟩; rw [hm6] at hv6; subst hv6; have hb7 := (HA6.out.tb.after hb6).cell 5 (.slice a2 n c2) rfl; have hf7 := (HA6.out.tb.after hb6).froz 5; have HA20 : Hid (Ap w s e a n cap x2.heap.size { s with events := (s.events + 1), stamp := e.stamp, lines := (dropL s.lines e) } (.slice a6 m6 c6) (x6.setCell ⟨x2.heap.size, 5, none⟩ (.slice a6 m6 c6))) := Ap.lines6 (L2 := dropL s.lines e) HA6.out hb6 ho6; clear hb6 ho6 hm6)
            | ((with_reducible refine guard_load 25 ?_); refine wpList_load_st rfl _ rfl HA20.out.tb rfl ?_)
            | ((with_reducible refine guard_store 25 ?_); refine wpList_store_st (s := zeroS) (s2 := { s with events := (s.events + 1), stamp := e.stamp, lines := (dropL s.lines e) }) (a2 := a6) (n2 := m6) (c2 := c6) rfl _ _ rfl HA20.out.res rfl rfl ?_; intro x9 z1 z2 z3 z4))
      refine bodyPost_ret (results_st2 rfl _ _ _ _ rfl rfl z1) rfl ⟨a6, m6, c6, rfl, ?_⟩
      exact HA20.out.done z2 z3
    | false =>
      have hR : fineS s e = { s with events := (s.events + 1), stamp := e.stamp, who := e.who, lines := (dropL s.lines e) } := by simp [fineS, doS, hk, hst, hw]
      rw [hR]
      clear hn hl hR hjj h1 h2 h3 h4 hp hpr hf hk
      go_enter Tryz.func7, Tryz.ntmps7
      go_wp2_with (first
            | ((with_reducible refine guard_load 25 ?_); clear T1; refine wpList_load_st rfl _ rfl HW1.out.1 rfl ?_)
            | (go_at_call 6; refine (scopy_any s a n cap _ HN.out HLW.out hm).mono ?_; rintro _ x2 ⟨v2, rfl, ho2, hb2⟩; obtain ⟨a2, c2, hv2, _, _, hl2, _⟩ := ho2.shape; simp only [HN.out] at hv2; subst hv2; have HX2 : Hid (OwnL x2 W.heap.size (.slice a2 n c2) s.lines ∧ Below W.heap.size W x2) := ⟨ho2, hb2⟩; clear hb2 ho2 hl2)
            | ((with_reducible refine guard_store 25 ?_); clear T2; refine wpList_store_st (s := zeroS) (s2 := s) (a2 := a2) (n2 := n) (c2 := c2) rfl _ _ rfl (StAt.new x2 zeroS (.slice none 0 0)) rfl rfl ?_; intro x3 z1 z2 z3 z4; have HA3 : Hid (Ap w s e a n cap x2.heap.size s (.slice a2 n c2) x3) := Ap.start HW1.out HLW0.out HX2.out.1 HX2.out.2 z1 (z2 _ _ ((Below.refl x2.heap.size x2).alloc (Nat.le_refl _) _) (Nat.le_refl _)); clear z1 z2 z3 z4)
            | ((with_reducible refine guard_load 25 ?_); clear T3; refine wpList_load_st rfl _ rfl HA3.out.se.st rfl ?_)
            | ((with_reducible refine guard_load 28 ?_); refine wpList_load_ev rfl _ rfl HA3.out.se.ev rfl ?_)
            | (go_at_call 15; refine (rjudge_any s e a n cap _ HN.out HA3.out.se.ln hlm).mono ?_; rw [HJ.out]; rintro _ x4 ⟨rfl, hb4⟩; have HA4 : Hid (Ap w s e a n cap x2.heap.size s (.slice a2 n c2) x4) := Ap.keep HA3.out hb4; clear hb4; have s5_8 := HA4.out.se.st.cell 8 (.int .i64 s.events) rfl; have t5 := HA4.out.tb.cell 8 (.int .i64 s.events) rfl; have u5 := HA4.out.tb.froz 8; have HA5 : Hid (Ap w s e a n cap x2.heap.size { s with events := (s.events + 1) } (.slice a2 n c2) (x4.setCell ⟨x2.heap.size, 8, none⟩ (.int .i64 (s.events + 1)))) := Ap.set HA4.out 8 _ rfl rfl; have s6_10 := HA5.out.se.st.cell 10 (.int .i64 s.stamp) rfl; have v6_8 := HA5.out.se.ev.cell 8 (.int .i64 e.stamp) rfl; have t6 := HA5.out.tb.cell 10 (.int .i64 s.stamp) rfl; have u6 := HA5.out.tb.froz 10; have HA6 : Hid (Ap w s e a n cap x2.heap.size { s with events := (s.events + 1), stamp := e.stamp } (.slice a2 n c2) ((x4.setCell ⟨x2.heap.size, 8, none⟩ (.int .i64 (s.events + 1))).setCell ⟨x2.heap.size, 10, none⟩ (.int .i64 e.stamp))) := Ap.set HA5.out 10 _ rfl rfl; have v7_7 := HA6.out.se.ev.cell 7 (.string e.who) rfl; have t7 := HA6.out.tb.cell 11 (.string s.who) rfl; have u7 := HA6.out.tb.froz 11; have HA7 : Hid (Ap w s e a n cap x2.heap.size { s with events := (s.events + 1), stamp := e.stamp, who := e.who } (.slice a2 n c2) (((x4.setCell ⟨x2.heap.size, 8, none⟩ (.int .i64 (s.events + 1))).setCell ⟨x2.heap.size, 10, none⟩ (.int .i64 e.stamp)).setCell ⟨x2.heap.size, 11, none⟩ (.string e.who))) := Ap.set HA6.out 11 _ rfl rfl; have kk := (SE.cs HA7.out.se HK.out).2.2.2.2.2.2.1; have qc := HA7.out.se.ev.cell 3 (.int .i64 e.qty) rfl; have T4 : Hid True := trivial)
            | ((with_reducible refine guard_load 25 ?_); clear T4; refine wpList_load_st rfl _ rfl HA7.out.se.st rfl ?_)
            | ((with_reducible refine guard_load 28 ?_); refine wpList_load_ev rfl _ rfl HA7.out.se.ev rfl ?_)
            | (go_at_call 16; refine (rwith_any s e (-e.qty) a n cap _ HN.out HA7.out.se.ln h16 HQ.out (by omega) (by omega)).mono ?_; rw [HWL.out]; rintro _ x6 ⟨v6, rfl, ho6, hb6⟩; obtain ⟨a6, c6, hv6, _⟩ := ho6.shape; obtain ⟨m6, hm6⟩ : ∃ m6, (dropL s.lines e).length = m6 := ⟨_, rfl⟩; rw [hm6] at hv6; subst hv6; have hb7 := (HA7.out.tb.after hb6).cell 5 (.slice a2 n c2) rfl; have hf7 := (HA7.out.tb.after hb6).froz 5; have HA20 : Hid (Ap w s e a n cap x2.heap.size { s with events := (s.events + 1), stamp := e.stamp, who := e.who, lines := (dropL s.lines e) } (.slice a6 m6 c6) (x6.setCell ⟨x2.heap.size, 5, none⟩ (.slice a6 m6 c6))) := Ap.lines6 (L2 := dropL s.lines e) HA7.out hb6 ho6; clear hb6 ho6 hm6)
            | ((with_reducible refine guard_load 25 ?_); refine wpList_load_st rfl _ rfl HA20.out.tb rfl ?_)
            | ((with_reducible refine guard_store 25 ?_); refine wpList_store_st (s := zeroS) (s2 := { s with events := (s.events + 1), stamp := e.stamp, who := e.who, lines := (dropL s.lines e) }) (a2 := a6) (n2 := m6) (c2 := c6) rfl _ _ rfl HA20.out.res rfl rfl ?_; intro x9 z1 z2 z3 z4))
      refine bodyPost_ret (results_st2 rfl _ _ _ _ rfl rfl z1) rfl ⟨a6, m6, c6, rfl, ?_⟩
      exact HA20.out.done z2 z3
  · have gst : decide (s.stamp < e.stamp) = false := by simpa using hst
    cases hw : e.who.toList == [] with
    | true =>
      have hR : fineS s e = { s with events := (s.events + 1), lines := (dropL s.lines e) } := by simp [fineS, doS, hk, hst, hw]
      rw [hR]
      clear hn hl hR hjj h1 h2 h3 h4 hp hpr hf hk
      go_enter Tryz.func7, Tryz.ntmps7
      go_wp2_with (first
            | ((with_reducible refine guard_load 25 ?_); clear T1; refine wpList_load_st rfl _ rfl HW1.out.1 rfl ?_)
            | (go_at_call 6; refine (scopy_any s a n cap _ HN.out HLW.out hm).mono ?_; rintro _ x2 ⟨v2, rfl, ho2, hb2⟩; obtain ⟨a2, c2, hv2, _, _, hl2, _⟩ := ho2.shape; simp only [HN.out] at hv2; subst hv2; have HX2 : Hid (OwnL x2 W.heap.size (.slice a2 n c2) s.lines ∧ Below W.heap.size W x2) := ⟨ho2, hb2⟩; clear hb2 ho2 hl2)
            | ((with_reducible refine guard_store 25 ?_); clear T2; refine wpList_store_st (s := zeroS) (s2 := s) (a2 := a2) (n2 := n) (c2 := c2) rfl _ _ rfl (StAt.new x2 zeroS (.slice none 0 0)) rfl rfl ?_; intro x3 z1 z2 z3 z4; have HA3 : Hid (Ap w s e a n cap x2.heap.size s (.slice a2 n c2) x3) := Ap.start HW1.out HLW0.out HX2.out.1 HX2.out.2 z1 (z2 _ _ ((Below.refl x2.heap.size x2).alloc (Nat.le_refl _) _) (Nat.le_refl _)); clear z1 z2 z3 z4)
            | ((with_reducible refine guard_load 25 ?_); clear T3; refine wpList_load_st rfl _ rfl HA3.out.se.st rfl ?_)
            | ((with_reducible refine guard_load 28 ?_); refine wpList_load_ev rfl _ rfl HA3.out.se.ev rfl ?_)
            | (go_at_call 15; refine (rjudge_any s e a n cap _ HN.out HA3.out.se.ln hlm).mono ?_; rw [HJ.out]; rintro _ x4 ⟨rfl, hb4⟩; have HA4 : Hid (Ap w s e a n cap x2.heap.size s (.slice a2 n c2) x4) := Ap.keep HA3.out hb4; clear hb4; have s5_8 := HA4.out.se.st.cell 8 (.int .i64 s.events) rfl; have t5 := HA4.out.tb.cell 8 (.int .i64 s.events) rfl; have u5 := HA4.out.tb.froz 8; have HA5 : Hid (Ap w s e a n cap x2.heap.size { s with events := (s.events + 1) } (.slice a2 n c2) (x4.setCell ⟨x2.heap.size, 8, none⟩ (.int .i64 (s.events + 1)))) := Ap.set HA4.out 8 _ rfl rfl; have s6_10 := HA5.out.se.st.cell 10 (.int .i64 s.stamp) rfl; have v6_8 := HA5.out.se.ev.cell 8 (.int .i64 e.stamp) rfl; have v7_7 := HA5.out.se.ev.cell 7 (.string e.who) rfl; have kk := (SE.cs HA5.out.se HK.out).2.2.2.2.2.2.1; have qc := HA5.out.se.ev.cell 3 (.int .i64 e.qty) rfl; have T4 : Hid True := trivial)
            | ((with_reducible refine guard_load 25 ?_); clear T4; refine wpList_load_st rfl _ rfl HA5.out.se.st rfl ?_)
            | ((with_reducible refine guard_load 28 ?_); refine wpList_load_ev rfl _ rfl HA5.out.se.ev rfl ?_)
            | (go_at_call 16; refine (rwith_any s e (-e.qty) a n cap _ HN.out HA5.out.se.ln h16 HQ.out (by omega) (by omega)).mono ?_; rw [HWL.out]; rintro _ x6 ⟨v6, rfl, ho6, hb6⟩; obtain ⟨a6, c6, hv6, _⟩ := ho6.shape; obtain ⟨m6, hm6⟩ : ∃ m6, (dropL s.lines e).length = m6 := ⟨_, rfl⟩; rw [hm6] at hv6; subst hv6; have hb7 := (HA5.out.tb.after hb6).cell 5 (.slice a2 n c2) rfl; have hf7 := (HA5.out.tb.after hb6).froz 5; have HA20 : Hid (Ap w s e a n cap x2.heap.size { s with events := (s.events + 1), lines := (dropL s.lines e) } (.slice a6 m6 c6) (x6.setCell ⟨x2.heap.size, 5, none⟩ (.slice a6 m6 c6))) := Ap.lines6 (L2 := dropL s.lines e) HA5.out hb6 ho6; clear hb6 ho6 hm6)
            | ((with_reducible refine guard_load 25 ?_); refine wpList_load_st rfl _ rfl HA20.out.tb rfl ?_)
            | ((with_reducible refine guard_store 25 ?_); refine wpList_store_st (s := zeroS) (s2 := { s with events := (s.events + 1), lines := (dropL s.lines e) }) (a2 := a6) (n2 := m6) (c2 := c6) rfl _ _ rfl HA20.out.res rfl rfl ?_; intro x9 z1 z2 z3 z4))
      refine bodyPost_ret (results_st2 rfl _ _ _ _ rfl rfl z1) rfl ⟨a6, m6, c6, rfl, ?_⟩
      exact HA20.out.done z2 z3
    | false =>
      have hR : fineS s e = { s with events := (s.events + 1), who := e.who, lines := (dropL s.lines e) } := by simp [fineS, doS, hk, hst, hw]
      rw [hR]
      clear hn hl hR hjj h1 h2 h3 h4 hp hpr hf hk
      go_enter Tryz.func7, Tryz.ntmps7
      go_wp2_with (first
            | ((with_reducible refine guard_load 25 ?_); clear T1; refine wpList_load_st rfl _ rfl HW1.out.1 rfl ?_)
            | (go_at_call 6; refine (scopy_any s a n cap _ HN.out HLW.out hm).mono ?_; rintro _ x2 ⟨v2, rfl, ho2, hb2⟩; obtain ⟨a2, c2, hv2, _, _, hl2, _⟩ := ho2.shape; simp only [HN.out] at hv2; subst hv2; have HX2 : Hid (OwnL x2 W.heap.size (.slice a2 n c2) s.lines ∧ Below W.heap.size W x2) := ⟨ho2, hb2⟩; clear hb2 ho2 hl2)
            | ((with_reducible refine guard_store 25 ?_); clear T2; refine wpList_store_st (s := zeroS) (s2 := s) (a2 := a2) (n2 := n) (c2 := c2) rfl _ _ rfl (StAt.new x2 zeroS (.slice none 0 0)) rfl rfl ?_; intro x3 z1 z2 z3 z4; have HA3 : Hid (Ap w s e a n cap x2.heap.size s (.slice a2 n c2) x3) := Ap.start HW1.out HLW0.out HX2.out.1 HX2.out.2 z1 (z2 _ _ ((Below.refl x2.heap.size x2).alloc (Nat.le_refl _) _) (Nat.le_refl _)); clear z1 z2 z3 z4)
            | ((with_reducible refine guard_load 25 ?_); clear T3; refine wpList_load_st rfl _ rfl HA3.out.se.st rfl ?_)
            | ((with_reducible refine guard_load 28 ?_); refine wpList_load_ev rfl _ rfl HA3.out.se.ev rfl ?_)
            | (go_at_call 15; refine (rjudge_any s e a n cap _ HN.out HA3.out.se.ln hlm).mono ?_; rw [HJ.out]; rintro _ x4 ⟨rfl, hb4⟩; have HA4 : Hid (Ap w s e a n cap x2.heap.size s (.slice a2 n c2) x4) := Ap.keep HA3.out hb4; clear hb4; have s5_8 := HA4.out.se.st.cell 8 (.int .i64 s.events) rfl; have t5 := HA4.out.tb.cell 8 (.int .i64 s.events) rfl; have u5 := HA4.out.tb.froz 8; have HA5 : Hid (Ap w s e a n cap x2.heap.size { s with events := (s.events + 1) } (.slice a2 n c2) (x4.setCell ⟨x2.heap.size, 8, none⟩ (.int .i64 (s.events + 1)))) := Ap.set HA4.out 8 _ rfl rfl; have s6_10 := HA5.out.se.st.cell 10 (.int .i64 s.stamp) rfl; have v6_8 := HA5.out.se.ev.cell 8 (.int .i64 e.stamp) rfl; have v7_7 := HA5.out.se.ev.cell 7 (.string e.who) rfl; have t7 := HA5.out.tb.cell 11 (.string s.who) rfl; have u7 := HA5.out.tb.froz 11; have HA7 : Hid (Ap w s e a n cap x2.heap.size { s with events := (s.events + 1), who := e.who } (.slice a2 n c2) ((x4.setCell ⟨x2.heap.size, 8, none⟩ (.int .i64 (s.events + 1))).setCell ⟨x2.heap.size, 11, none⟩ (.string e.who))) := Ap.set HA5.out 11 _ rfl rfl; have kk := (SE.cs HA7.out.se HK.out).2.2.2.2.2.2.1; have qc := HA7.out.se.ev.cell 3 (.int .i64 e.qty) rfl; have T4 : Hid True := trivial)
            | ((with_reducible refine guard_load 25 ?_); clear T4; refine wpList_load_st rfl _ rfl HA7.out.se.st rfl ?_)
            | ((with_reducible refine guard_load 28 ?_); refine wpList_load_ev rfl _ rfl HA7.out.se.ev rfl ?_)
            | (go_at_call 16; refine (rwith_any s e (-e.qty) a n cap _ HN.out HA7.out.se.ln h16 HQ.out (by omega) (by omega)).mono ?_; rw [HWL.out]; rintro _ x6 ⟨v6, rfl, ho6, hb6⟩; obtain ⟨a6, c6, hv6, _⟩ := ho6.shape; obtain ⟨m6, hm6⟩ : ∃ m6, (dropL s.lines e).length = m6 := ⟨_, rfl⟩; rw [hm6] at hv6; subst hv6; have hb7 := (HA7.out.tb.after hb6).cell 5 (.slice a2 n c2) rfl; have hf7 := (HA7.out.tb.after hb6).froz 5; have HA20 : Hid (Ap w s e a n cap x2.heap.size { s with events := (s.events + 1), who := e.who, lines := (dropL s.lines e) } (.slice a6 m6 c6) (x6.setCell ⟨x2.heap.size, 5, none⟩ (.slice a6 m6 c6))) := Ap.lines6 (L2 := dropL s.lines e) HA7.out hb6 ho6; clear hb6 ho6 hm6)
            | ((with_reducible refine guard_load 25 ?_); refine wpList_load_st rfl _ rfl HA20.out.tb rfl ?_)
            | ((with_reducible refine guard_store 25 ?_); refine wpList_store_st (s := zeroS) (s2 := { s with events := (s.events + 1), who := e.who, lines := (dropL s.lines e) }) (a2 := a6) (n2 := m6) (c2 := c6) rfl _ _ rfl HA20.out.res rfl rfl ?_; intro x9 z1 z2 z3 z4))
      refine bodyPost_ret (results_st2 rfl _ _ _ _ rfl rfl z1) rfl ⟨a6, m6, c6, rfl, ?_⟩
      exact HA20.out.done z2 z3
end Go.Proofs.YtldbdhhbmnbmaaaGreat
namespace Go.Proofs.YtldbdhhbmnbmaaaGreat
open Go.ChangeShapes Go.WideShapes Go.ChangeAt Go.RowKit
set_option linter.unusedVariables false
set_option linter.unusedSimpArgs false
set_option maxRecDepth 20000 in
set_option maxHeartbeats 16000000 in
theorem rapply_3 (s : St) (e : Ev) (a : Option Addr) (n cap : Nat) (w : World) (hn : s.lines.length = n) (hl : Lns w a s.lines) (hm : n * 32 ≤ 140737488351232) (hj : judS s e = 0) (hk : e.kind = 3) :
    Calls Tryz.prog 7 #[.agg (stA s (.slice a n cap)), .agg (evA e)] w fun r w' => ApplyPost (nextS s e) (judS s e) w r w' := by
  obtain ⟨W, hW, h1, h2, h3, h4⟩ := t3_new w s e (.slice a n cap)
  have HN : Hid (s.lines.length = n) := hn
  have hlm : n ≤ maxLen := by unfold maxLen; omega
  have HW1 : Hid (StAt W w.heap.size s (.slice a n cap) ∧ EvAt W (w.heap.size + 1) e ∧ StAt W (w.heap.size + 2) zeroS (.slice none 0 0) ∧ Below w.heap.size w W) := ⟨h1, h2, h3, h4⟩
  have HLW0 : Hid (Lns w a s.lines) := hl
  have HLW : Hid (Lns W a s.lines) := hl.keep h4
  obtain ⟨j, hjj⟩ : ∃ j, judS s e = j := ⟨_, rfl⟩
  have HJ : Hid (judS s e = j) := hjj
  have T1 : Hid True := trivial
  have T2 : Hid True := trivial
  have T3 : Hid True := trivial
  have hf : nextS s e = fineS s e := by unfold nextS; rw [if_neg (by rw [hj]; decide), if_pos hj]
  have hp := vl_of (jud_parts (s := s) (e := e) (by rw [hj]; decide)).1
  have he1 := hp.e1
  have he2 := hp.e2
  have hpr := right_of (jud_parts (s := s) (e := e) (by rw [hj]; decide)).2.1
  have pp0 : 0 ≤ e.price := hpr.price0
  have pp1 : e.price ≤ 1000000000000000 := by have := hpr.price1; have h5 : hiP 5 ≤ 1000000000000000 := (by decide); omega
  have pd0 : 0 ≤ s.refunded := hp.f1
  have pd1 : s.refunded ≤ s.paid := hp.f2
  have pd2 : s.paid ≤ 240000000000000 := by have := hp.p2; have := (vld_due (vl_to hp)).2.2.2.2.2.2.2; omega
  have tx0 := hp.t1
  have tx1 := hp.t2
  rw [hjj] at hj
  subst hj
  rw [hf, hjj]
  have HK : Hid (e.kind = 3) := hk
  have hLB := (vl_of (jud_parts (s := s) (e := e) (by rw [hjj]; decide)).1).lines
  have HLBB : Hid (linesB s.lines = true) := hLB
  have h16 : n ≤ 16 := by have := (linesB_from hLB).1; omega
  have HRI : Hid (linesFrom (-1) s.lines = true) := (linesB_from hLB).2
  have qq0 : 0 ≤ e.qty := by have := hpr.qty0; simpa [loQ] using this
  have qq1 : e.qty ≤ 10000 := hpr.qty1
  have hrf : refR s e = 0 := by
    have h7 := (jud_rest (s := s) (e := e) (by rw [hjj]; decide) (by rw [hjj]; decide)).2
    rw [hjj] at h7
    split at h7
    · rename_i h8; exact absurd h7.symm h8
    · exact h7.symm
  have hpn : e.price ≠ 0 := by
    have h8 : refMoney (dueS s - s.paid) e = 0 := by rw [← hrf]; unfold refR; simp [hk]
    unfold refMoney at h8
    split at h8
    · cases h8
    · assumption
  obtain ⟨D, hD⟩ : ∃ D, dueS s = D := ⟨_, rfl⟩
  have hpb : paidB { s with paid := s.paid + e.price } = (s.paid + e.price == D) := by
    unfold paidB
    rw [show dueS { s with paid := s.paid + e.price } = dueS s from due_of rfl rfl, hD, decide_eq_true (show 0 < s.paid + e.price by omega)]
    rfl
  have HD : Hid (dueS s = D) := hD
  clear hrf hLB hpn hD
  cases hg : (s.paid + e.price == D) with
  | true =>
    by_cases hst : s.stamp < e.stamp
    · have gst : decide (s.stamp < e.stamp) = true := by simpa using hst
      cases hw : e.who.toList == [] with
      | true =>
        have hR : fineS s e = { s with events := (s.events + 1), stamp := e.stamp, paid := (s.paid + e.price), status := 3 } := by simp [fineS, doS, hk, hst, hw, payS, hpb, hg]
        rw [hR]
        clear hn hl hR hjj h1 h2 h3 h4 hp hpr hf hk
        go_enter Tryz.func7, Tryz.ntmps7
        go_wp2_with (first
              | ((with_reducible refine guard_load 25 ?_); clear T1; refine wpList_load_st rfl _ rfl HW1.out.1 rfl ?_)
              | (go_at_call 6; refine (scopy_any s a n cap _ HN.out HLW.out hm).mono ?_; rintro _ x2 ⟨v2, rfl, ho2, hb2⟩; obtain ⟨a2, c2, hv2, _, _, hl2, _⟩ := ho2.shape; simp only [HN.out] at hv2; subst hv2; have HX2 : Hid (OwnL x2 W.heap.size (.slice a2 n c2) s.lines ∧ Below W.heap.size W x2) := ⟨ho2, hb2⟩; clear hb2 ho2 hl2)
              | ((with_reducible refine guard_store 25 ?_); clear T2; refine wpList_store_st (s := zeroS) (s2 := s) (a2 := a2) (n2 := n) (c2 := c2) rfl _ _ rfl (StAt.new x2 zeroS (.slice none 0 0)) rfl rfl ?_; intro x3 z1 z2 z3 z4; have HA3 : Hid (Ap w s e a n cap x2.heap.size s (.slice a2 n c2) x3) := Ap.start HW1.out HLW0.out HX2.out.1 HX2.out.2 z1 (z2 _ _ ((Below.refl x2.heap.size x2).alloc (Nat.le_refl _) _) (Nat.le_refl _)); clear z1 z2 z3 z4)
              | ((with_reducible refine guard_load 25 ?_); clear T3; refine wpList_load_st rfl _ rfl HA3.out.se.st rfl ?_)
              | ((with_reducible refine guard_load 28 ?_); refine wpList_load_ev rfl _ rfl HA3.out.se.ev rfl ?_)
              | (go_at_call 15; refine (rjudge_any s e a n cap _ HN.out HA3.out.se.ln hlm).mono ?_; rw [HJ.out]; rintro _ x4 ⟨rfl, hb4⟩; have HA4 : Hid (Ap w s e a n cap x2.heap.size s (.slice a2 n c2) x4) := Ap.keep HA3.out hb4; clear hb4; have s5_8 := HA4.out.se.st.cell 8 (.int .i64 s.events) rfl; have t5 := HA4.out.tb.cell 8 (.int .i64 s.events) rfl; have u5 := HA4.out.tb.froz 8; have HA5 : Hid (Ap w s e a n cap x2.heap.size { s with events := (s.events + 1) } (.slice a2 n c2) (x4.setCell ⟨x2.heap.size, 8, none⟩ (.int .i64 (s.events + 1)))) := Ap.set HA4.out 8 _ rfl rfl; have s6_10 := HA5.out.se.st.cell 10 (.int .i64 s.stamp) rfl; have v6_8 := HA5.out.se.ev.cell 8 (.int .i64 e.stamp) rfl; have t6 := HA5.out.tb.cell 10 (.int .i64 s.stamp) rfl; have u6 := HA5.out.tb.froz 10; have HA6 : Hid (Ap w s e a n cap x2.heap.size { s with events := (s.events + 1), stamp := e.stamp } (.slice a2 n c2) ((x4.setCell ⟨x2.heap.size, 8, none⟩ (.int .i64 (s.events + 1))).setCell ⟨x2.heap.size, 10, none⟩ (.int .i64 e.stamp))) := Ap.set HA5.out 10 _ rfl rfl; have v7_7 := HA6.out.se.ev.cell 7 (.string e.who) rfl; have kk := (SE.cs HA6.out.se HK.out).2.2.2.2.2.2.1; have s8_6 := HA6.out.se.st.cell 6 (.int .i64 s.paid) rfl; have v8_4 := HA6.out.se.ev.cell 4 (.int .i64 e.price) rfl; have t8 := HA6.out.tb.cell 6 (.int .i64 s.paid) rfl; have u8 := HA6.out.tb.froz 6; have HA8 : Hid (Ap w s e a n cap x2.heap.size { s with events := (s.events + 1), stamp := e.stamp, paid := (s.paid + e.price) } (.slice a2 n c2) (((x4.setCell ⟨x2.heap.size, 8, none⟩ (.int .i64 (s.events + 1))).setCell ⟨x2.heap.size, 10, none⟩ (.int .i64 e.stamp)).setCell ⟨x2.heap.size, 6, none⟩ (.int .i64 (s.paid + e.price)))) := Ap.set HA6.out 6 _ rfl rfl))
        obtain ⟨E, hE⟩ : ∃ E : World → Prop, (fun x => Ap w s e a n cap x2.heap.size { s with events := (s.events + 1), stamp := e.stamp, paid := (s.paid + e.price) } (.slice a2 n c2) x) = E := ⟨_, rfl⟩
        have CS : Hid (∀ w2, E w2 → w2.cell? ⟨x2.heap.size, 6, none⟩ = some (.int .i64 (s.paid + e.price))) := fun w2 h => by rw [← hE] at h; exact h.tb.cell 6 (.int .i64 (s.paid + e.price)) rfl
        have RS : Hid (∀ w2, E w2 → StAt w2 w.heap.size s (.slice a n cap)) := fun w2 h => by rw [← hE] at h; exact h.se.st
        have CD : Hid (∀ w2, E w2 → Calls Tryz.prog 17 #[.agg (stA s (.slice a n cap))] w2 fun x w' => x = .returned (.int .i64 D) ∧ E w') := fun w2 h => by
          rw [← hE] at h
          refine (rdue_any s a n cap w2 HN.out h.se.ln HLBB.out tx0 tx1).mono ?_
          rw [HD.out]
          rintro _ w5 ⟨rfl, hb5⟩
          exact ⟨rfl, by rw [← hE]; exact h.keep hb5⟩
        have HEE : Hid (∀ y, Ap w s e a n cap x2.heap.size { s with events := (s.events + 1), stamp := e.stamp, paid := (s.paid + e.price) } (.slice a2 n c2) y → E y.drew) := fun y h => by rw [← hE]; exact h.keep (Below.refl _ _).drew
        have HEO : Hid (∀ y, E y → Ap w s e a n cap x2.heap.size { s with events := (s.events + 1), stamp := e.stamp, paid := (s.paid + e.price) } (.slice a2 n c2) y) := fun y h => by rw [← hE] at h; exact h
        clear hE
        refine wp_region_quiet (C := E) (by kernel_rfl) (by kernel_rfl) (HEE.out _ HA8.out) ?_
        simp only [List.toList_toArray]
        repeat (any_goals (first
          | go_big_quiet_skip
          | (go_big_quiet_want
             first
             | (refine quiet_val (v := .agg (stA s (.slice a n cap))) (fun w2 hw2 => exec_load_st (.tmp 2) rfl rfl (RS.out w2 hw2)) ?_
                go_big_quiet_on; simp only [Act.put, List.setIfInBounds_toArray, List.set_cons_zero, List.set_cons_succ])
             | (refine quiet_val (v := ?_) (fun w2 hw2 => ?_) ?_
                rotate_left
                · (have e6 := CS.out w2 hw2; go_simp; with_reducible rfl)
                go_big_quiet_on; simp only [Act.put, List.setIfInBounds_toArray, List.set_cons_zero, List.set_cons_succ])
             | (refine quiet_call (v := ?_) (f := ?_) (args := ?_) (fun w2 hw2 => ?_) (fun w2 hw2 => ?_) ?_
                rotate_left 3
                · (go_simp; refine ⟨?_, ?_⟩ <;> with_reducible rfl)
                · (go_at_call 17; exact CD.out _ hw2)
                (go_big_quiet_on; simp only [Act.put, List.setIfInBounds_toArray, List.set_cons_zero, List.set_cons_succ])))))
        all_goals
          refine wpQuiet_nil ?_
          intro w3 hw3
          have HZ : Hid (Ap w s e a n cap x2.heap.size { s with events := (s.events + 1), stamp := e.stamp, paid := (s.paid + e.price) } (.slice a2 n c2) w3) := HEO.out _ hw3
          clear hw3
          have q1 := HZ.out.tb.cell 1 (.int .i64 s.status) rfl
          have q2 := HZ.out.tb.froz 1
          have HY : Hid (Ap w s e a n cap x2.heap.size { s with events := (s.events + 1), stamp := e.stamp, paid := (s.paid + e.price), status := 3 } (.slice a2 n c2) (w3.setCell ⟨x2.heap.size, 1, none⟩ (.int .i64 3))) := Ap.set HZ.out 1 _ rfl rfl
          go_wp2_with (first
                | ((with_reducible refine guard_load 25 ?_); refine wpList_load_st rfl _ rfl HY.out.tb rfl ?_)
                | ((with_reducible refine guard_store 25 ?_); refine wpList_store_st (s := zeroS) (s2 := { s with events := (s.events + 1), stamp := e.stamp, paid := (s.paid + e.price), status := 3 }) (a2 := a2) (n2 := n) (c2 := c2) rfl _ _ rfl HY.out.res rfl rfl ?_; intro x9 z1 z2 z3 z4))
          refine bodyPost_ret (results_st2 rfl _ _ _ _ rfl rfl z1) rfl ⟨a2, n, c2, rfl, ?_⟩
          exact HY.out.done z2 z3
      | false =>
        have hR : fineS s e = { s with events := (s.events + 1), stamp := e.stamp, who := e.who, paid := (s.paid + e.price), status := 3 } := by simp [fineS, doS, hk, hst, hw, payS, hpb, hg]
        rw [hR]
        clear hn hl hR hjj h1 h2 h3 h4 hp hpr hf hk
        go_enter Tryz.func7, Tryz.ntmps7
        go_wp2_with (first
              | ((with_reducible refine guard_load 25 ?_); clear T1; refine wpList_load_st rfl _ rfl HW1.out.1 rfl ?_)
              | (go_at_call 6; refine (scopy_any s a n cap _ HN.out HLW.out hm).mono ?_; rintro _ x2 ⟨v2, rfl, ho2, hb2⟩; obtain ⟨a2, c2, hv2, _, _, hl2, _⟩ := ho2.shape; simp only [HN.out] at hv2; subst hv2; have HX2 : Hid (OwnL x2 W.heap.size (.slice a2 n c2) s.lines ∧ Below W.heap.size W x2) := ⟨ho2, hb2⟩; clear hb2 ho2 hl2)
              | ((with_reducible refine guard_store 25 ?_); clear T2; refine wpList_store_st (s := zeroS) (s2 := s) (a2 := a2) (n2 := n) (c2 := c2) rfl _ _ rfl (StAt.new x2 zeroS (.slice none 0 0)) rfl rfl ?_; intro x3 z1 z2 z3 z4; have HA3 : Hid (Ap w s e a n cap x2.heap.size s (.slice a2 n c2) x3) := Ap.start HW1.out HLW0.out HX2.out.1 HX2.out.2 z1 (z2 _ _ ((Below.refl x2.heap.size x2).alloc (Nat.le_refl _) _) (Nat.le_refl _)); clear z1 z2 z3 z4)
              | ((with_reducible refine guard_load 25 ?_); clear T3; refine wpList_load_st rfl _ rfl HA3.out.se.st rfl ?_)
              | ((with_reducible refine guard_load 28 ?_); refine wpList_load_ev rfl _ rfl HA3.out.se.ev rfl ?_)
              | (go_at_call 15; refine (rjudge_any s e a n cap _ HN.out HA3.out.se.ln hlm).mono ?_; rw [HJ.out]; rintro _ x4 ⟨rfl, hb4⟩; have HA4 : Hid (Ap w s e a n cap x2.heap.size s (.slice a2 n c2) x4) := Ap.keep HA3.out hb4; clear hb4; have s5_8 := HA4.out.se.st.cell 8 (.int .i64 s.events) rfl; have t5 := HA4.out.tb.cell 8 (.int .i64 s.events) rfl; have u5 := HA4.out.tb.froz 8; have HA5 : Hid (Ap w s e a n cap x2.heap.size { s with events := (s.events + 1) } (.slice a2 n c2) (x4.setCell ⟨x2.heap.size, 8, none⟩ (.int .i64 (s.events + 1)))) := Ap.set HA4.out 8 _ rfl rfl; have s6_10 := HA5.out.se.st.cell 10 (.int .i64 s.stamp) rfl; have v6_8 := HA5.out.se.ev.cell 8 (.int .i64 e.stamp) rfl; have t6 := HA5.out.tb.cell 10 (.int .i64 s.stamp) rfl; have u6 := HA5.out.tb.froz 10; have HA6 : Hid (Ap w s e a n cap x2.heap.size { s with events := (s.events + 1), stamp := e.stamp } (.slice a2 n c2) ((x4.setCell ⟨x2.heap.size, 8, none⟩ (.int .i64 (s.events + 1))).setCell ⟨x2.heap.size, 10, none⟩ (.int .i64 e.stamp))) := Ap.set HA5.out 10 _ rfl rfl; have v7_7 := HA6.out.se.ev.cell 7 (.string e.who) rfl; have t7 := HA6.out.tb.cell 11 (.string s.who) rfl; have u7 := HA6.out.tb.froz 11; have HA7 : Hid (Ap w s e a n cap x2.heap.size { s with events := (s.events + 1), stamp := e.stamp, who := e.who } (.slice a2 n c2) (((x4.setCell ⟨x2.heap.size, 8, none⟩ (.int .i64 (s.events + 1))).setCell ⟨x2.heap.size, 10, none⟩ (.int .i64 e.stamp)).setCell ⟨x2.heap.size, 11, none⟩ (.string e.who))) := Ap.set HA6.out 11 _ rfl rfl; have kk := (SE.cs HA7.out.se HK.out).2.2.2.2.2.2.1; have s8_6 := HA7.out.se.st.cell 6 (.int .i64 s.paid) rfl; have v8_4 := HA7.out.se.ev.cell 4 (.int .i64 e.price) rfl; have t8 := HA7.out.tb.cell 6 (.int .i64 s.paid) rfl; have u8 := HA7.out.tb.froz 6; have HA8 : Hid (Ap w s e a n cap x2.heap.size { s with events := (s.events + 1), stamp := e.stamp, who := e.who, paid := (s.paid + e.price) } (.slice a2 n c2) ((((x4.setCell ⟨x2.heap.size, 8, none⟩ (.int .i64 (s.events + 1))).setCell ⟨x2.heap.size, 10, none⟩ (.int .i64 e.stamp)).setCell ⟨x2.heap.size, 11, none⟩ (.string e.who)).setCell ⟨x2.heap.size, 6, none⟩ (.int .i64 (s.paid + e.price)))) := Ap.set HA7.out 6 _ rfl rfl))
        obtain ⟨E, hE⟩ : ∃ E : World → Prop, (fun x => Ap w s e a n cap x2.heap.size { s with events := (s.events + 1), stamp := e.stamp, who := e.who, paid := (s.paid + e.price) } (.slice a2 n c2) x) = E := ⟨_, rfl⟩
        have CS : Hid (∀ w2, E w2 → w2.cell? ⟨x2.heap.size, 6, none⟩ = some (.int .i64 (s.paid + e.price))) := fun w2 h => by rw [← hE] at h; exact h.tb.cell 6 (.int .i64 (s.paid + e.price)) rfl
        have RS : Hid (∀ w2, E w2 → StAt w2 w.heap.size s (.slice a n cap)) := fun w2 h => by rw [← hE] at h; exact h.se.st
        have CD : Hid (∀ w2, E w2 → Calls Tryz.prog 17 #[.agg (stA s (.slice a n cap))] w2 fun x w' => x = .returned (.int .i64 D) ∧ E w') := fun w2 h => by
          rw [← hE] at h
          refine (rdue_any s a n cap w2 HN.out h.se.ln HLBB.out tx0 tx1).mono ?_
          rw [HD.out]
          rintro _ w5 ⟨rfl, hb5⟩
          exact ⟨rfl, by rw [← hE]; exact h.keep hb5⟩
        have HEE : Hid (∀ y, Ap w s e a n cap x2.heap.size { s with events := (s.events + 1), stamp := e.stamp, who := e.who, paid := (s.paid + e.price) } (.slice a2 n c2) y → E y.drew) := fun y h => by rw [← hE]; exact h.keep (Below.refl _ _).drew
        have HEO : Hid (∀ y, E y → Ap w s e a n cap x2.heap.size { s with events := (s.events + 1), stamp := e.stamp, who := e.who, paid := (s.paid + e.price) } (.slice a2 n c2) y) := fun y h => by rw [← hE] at h; exact h
        clear hE
        refine wp_region_quiet (C := E) (by kernel_rfl) (by kernel_rfl) (HEE.out _ HA8.out) ?_
        simp only [List.toList_toArray]
        repeat (any_goals (first
          | go_big_quiet_skip
          | (go_big_quiet_want
             first
             | (refine quiet_val (v := .agg (stA s (.slice a n cap))) (fun w2 hw2 => exec_load_st (.tmp 2) rfl rfl (RS.out w2 hw2)) ?_
                go_big_quiet_on; simp only [Act.put, List.setIfInBounds_toArray, List.set_cons_zero, List.set_cons_succ])
             | (refine quiet_val (v := ?_) (fun w2 hw2 => ?_) ?_
                rotate_left
                · (have e6 := CS.out w2 hw2; go_simp; with_reducible rfl)
                go_big_quiet_on; simp only [Act.put, List.setIfInBounds_toArray, List.set_cons_zero, List.set_cons_succ])
             | (refine quiet_call (v := ?_) (f := ?_) (args := ?_) (fun w2 hw2 => ?_) (fun w2 hw2 => ?_) ?_
                rotate_left 3
                · (go_simp; refine ⟨?_, ?_⟩ <;> with_reducible rfl)
                · (go_at_call 17; exact CD.out _ hw2)
                (go_big_quiet_on; simp only [Act.put, List.setIfInBounds_toArray, List.set_cons_zero, List.set_cons_succ])))))
        all_goals
          refine wpQuiet_nil ?_
          intro w3 hw3
          have HZ : Hid (Ap w s e a n cap x2.heap.size { s with events := (s.events + 1), stamp := e.stamp, who := e.who, paid := (s.paid + e.price) } (.slice a2 n c2) w3) := HEO.out _ hw3
          clear hw3
          have q1 := HZ.out.tb.cell 1 (.int .i64 s.status) rfl
          have q2 := HZ.out.tb.froz 1
          have HY : Hid (Ap w s e a n cap x2.heap.size { s with events := (s.events + 1), stamp := e.stamp, who := e.who, paid := (s.paid + e.price), status := 3 } (.slice a2 n c2) (w3.setCell ⟨x2.heap.size, 1, none⟩ (.int .i64 3))) := Ap.set HZ.out 1 _ rfl rfl
          go_wp2_with (first
                | ((with_reducible refine guard_load 25 ?_); refine wpList_load_st rfl _ rfl HY.out.tb rfl ?_)
                | ((with_reducible refine guard_store 25 ?_); refine wpList_store_st (s := zeroS) (s2 := { s with events := (s.events + 1), stamp := e.stamp, who := e.who, paid := (s.paid + e.price), status := 3 }) (a2 := a2) (n2 := n) (c2 := c2) rfl _ _ rfl HY.out.res rfl rfl ?_; intro x9 z1 z2 z3 z4))
          refine bodyPost_ret (results_st2 rfl _ _ _ _ rfl rfl z1) rfl ⟨a2, n, c2, rfl, ?_⟩
          exact HY.out.done z2 z3
    · have gst : decide (s.stamp < e.stamp) = false := by simpa using hst
      cases hw : e.who.toList == [] with
      | true =>
        have hR : fineS s e = { s with events := (s.events + 1), paid := (s.paid + e.price), status := 3 } := by simp [fineS, doS, hk, hst, hw, payS, hpb, hg]
        rw [hR]
        clear hn hl hR hjj h1 h2 h3 h4 hp hpr hf hk
        go_enter Tryz.func7, Tryz.ntmps7
        go_wp2_with (first
              | ((with_reducible refine guard_load 25 ?_); clear T1; refine wpList_load_st rfl _ rfl HW1.out.1 rfl ?_)
              | (go_at_call 6; refine (scopy_any s a n cap _ HN.out HLW.out hm).mono ?_; rintro _ x2 ⟨v2, rfl, ho2, hb2⟩; obtain ⟨a2, c2, hv2, _, _, hl2, _⟩ := ho2.shape; simp only [HN.out] at hv2; subst hv2; have HX2 : Hid (OwnL x2 W.heap.size (.slice a2 n c2) s.lines ∧ Below W.heap.size W x2) := ⟨ho2, hb2⟩; clear hb2 ho2 hl2)
              | ((with_reducible refine guard_store 25 ?_); clear T2; refine wpList_store_st (s := zeroS) (s2 := s) (a2 := a2) (n2 := n) (c2 := c2) rfl _ _ rfl (StAt.new x2 zeroS (.slice none 0 0)) rfl rfl ?_; intro x3 z1 z2 z3 z4; have HA3 : Hid (Ap w s e a n cap x2.heap.size s (.slice a2 n c2) x3) := Ap.start HW1.out HLW0.out HX2.out.1 HX2.out.2 z1 (z2 _ _ ((Below.refl x2.heap.size x2).alloc (Nat.le_refl _) _) (Nat.le_refl _)); clear z1 z2 z3 z4)
              | ((with_reducible refine guard_load 25 ?_); clear T3; refine wpList_load_st rfl _ rfl HA3.out.se.st rfl ?_)
              | ((with_reducible refine guard_load 28 ?_); refine wpList_load_ev rfl _ rfl HA3.out.se.ev rfl ?_)
              | (go_at_call 15; refine (rjudge_any s e a n cap _ HN.out HA3.out.se.ln hlm).mono ?_; rw [HJ.out]; rintro _ x4 ⟨rfl, hb4⟩; have HA4 : Hid (Ap w s e a n cap x2.heap.size s (.slice a2 n c2) x4) := Ap.keep HA3.out hb4; clear hb4; have s5_8 := HA4.out.se.st.cell 8 (.int .i64 s.events) rfl; have t5 := HA4.out.tb.cell 8 (.int .i64 s.events) rfl; have u5 := HA4.out.tb.froz 8; have HA5 : Hid (Ap w s e a n cap x2.heap.size { s with events := (s.events + 1) } (.slice a2 n c2) (x4.setCell ⟨x2.heap.size, 8, none⟩ (.int .i64 (s.events + 1)))) := Ap.set HA4.out 8 _ rfl rfl; have s6_10 := HA5.out.se.st.cell 10 (.int .i64 s.stamp) rfl; have v6_8 := HA5.out.se.ev.cell 8 (.int .i64 e.stamp) rfl; have v7_7 := HA5.out.se.ev.cell 7 (.string e.who) rfl; have kk := (SE.cs HA5.out.se HK.out).2.2.2.2.2.2.1; have s8_6 := HA5.out.se.st.cell 6 (.int .i64 s.paid) rfl; have v8_4 := HA5.out.se.ev.cell 4 (.int .i64 e.price) rfl; have t8 := HA5.out.tb.cell 6 (.int .i64 s.paid) rfl; have u8 := HA5.out.tb.froz 6; have HA8 : Hid (Ap w s e a n cap x2.heap.size { s with events := (s.events + 1), paid := (s.paid + e.price) } (.slice a2 n c2) ((x4.setCell ⟨x2.heap.size, 8, none⟩ (.int .i64 (s.events + 1))).setCell ⟨x2.heap.size, 6, none⟩ (.int .i64 (s.paid + e.price)))) := Ap.set HA5.out 6 _ rfl rfl))
        obtain ⟨E, hE⟩ : ∃ E : World → Prop, (fun x => Ap w s e a n cap x2.heap.size { s with events := (s.events + 1), paid := (s.paid + e.price) } (.slice a2 n c2) x) = E := ⟨_, rfl⟩
        have CS : Hid (∀ w2, E w2 → w2.cell? ⟨x2.heap.size, 6, none⟩ = some (.int .i64 (s.paid + e.price))) := fun w2 h => by rw [← hE] at h; exact h.tb.cell 6 (.int .i64 (s.paid + e.price)) rfl
        have RS : Hid (∀ w2, E w2 → StAt w2 w.heap.size s (.slice a n cap)) := fun w2 h => by rw [← hE] at h; exact h.se.st
        have CD : Hid (∀ w2, E w2 → Calls Tryz.prog 17 #[.agg (stA s (.slice a n cap))] w2 fun x w' => x = .returned (.int .i64 D) ∧ E w') := fun w2 h => by
          rw [← hE] at h
          refine (rdue_any s a n cap w2 HN.out h.se.ln HLBB.out tx0 tx1).mono ?_
          rw [HD.out]
          rintro _ w5 ⟨rfl, hb5⟩
          exact ⟨rfl, by rw [← hE]; exact h.keep hb5⟩
        have HEE : Hid (∀ y, Ap w s e a n cap x2.heap.size { s with events := (s.events + 1), paid := (s.paid + e.price) } (.slice a2 n c2) y → E y.drew) := fun y h => by rw [← hE]; exact h.keep (Below.refl _ _).drew
        have HEO : Hid (∀ y, E y → Ap w s e a n cap x2.heap.size { s with events := (s.events + 1), paid := (s.paid + e.price) } (.slice a2 n c2) y) := fun y h => by rw [← hE] at h; exact h
        clear hE
        refine wp_region_quiet (C := E) (by kernel_rfl) (by kernel_rfl) (HEE.out _ HA8.out) ?_
        simp only [List.toList_toArray]
        repeat (any_goals (first
          | go_big_quiet_skip
          | (go_big_quiet_want
             first
             | (refine quiet_val (v := .agg (stA s (.slice a n cap))) (fun w2 hw2 => exec_load_st (.tmp 2) rfl rfl (RS.out w2 hw2)) ?_
                go_big_quiet_on; simp only [Act.put, List.setIfInBounds_toArray, List.set_cons_zero, List.set_cons_succ])
             | (refine quiet_val (v := ?_) (fun w2 hw2 => ?_) ?_
                rotate_left
                · (have e6 := CS.out w2 hw2; go_simp; with_reducible rfl)
                go_big_quiet_on; simp only [Act.put, List.setIfInBounds_toArray, List.set_cons_zero, List.set_cons_succ])
             | (refine quiet_call (v := ?_) (f := ?_) (args := ?_) (fun w2 hw2 => ?_) (fun w2 hw2 => ?_) ?_
                rotate_left 3
                · (go_simp; refine ⟨?_, ?_⟩ <;> with_reducible rfl)
                · (go_at_call 17; exact CD.out _ hw2)
                (go_big_quiet_on; simp only [Act.put, List.setIfInBounds_toArray, List.set_cons_zero, List.set_cons_succ])))))
        all_goals
          refine wpQuiet_nil ?_
          intro w3 hw3
          have HZ : Hid (Ap w s e a n cap x2.heap.size { s with events := (s.events + 1), paid := (s.paid + e.price) } (.slice a2 n c2) w3) := HEO.out _ hw3
          clear hw3
          have q1 := HZ.out.tb.cell 1 (.int .i64 s.status) rfl
          have q2 := HZ.out.tb.froz 1
          have HY : Hid (Ap w s e a n cap x2.heap.size { s with events := (s.events + 1), paid := (s.paid + e.price), status := 3 } (.slice a2 n c2) (w3.setCell ⟨x2.heap.size, 1, none⟩ (.int .i64 3))) := Ap.set HZ.out 1 _ rfl rfl
          go_wp2_with (first
                | ((with_reducible refine guard_load 25 ?_); refine wpList_load_st rfl _ rfl HY.out.tb rfl ?_)
                | ((with_reducible refine guard_store 25 ?_); refine wpList_store_st (s := zeroS) (s2 := { s with events := (s.events + 1), paid := (s.paid + e.price), status := 3 }) (a2 := a2) (n2 := n) (c2 := c2) rfl _ _ rfl HY.out.res rfl rfl ?_; intro x9 z1 z2 z3 z4))
          refine bodyPost_ret (results_st2 rfl _ _ _ _ rfl rfl z1) rfl ⟨a2, n, c2, rfl, ?_⟩
          exact HY.out.done z2 z3
      | false =>
        have hR : fineS s e = { s with events := (s.events + 1), who := e.who, paid := (s.paid + e.price), status := 3 } := by simp [fineS, doS, hk, hst, hw, payS, hpb, hg]
        rw [hR]
        clear hn hl hR hjj h1 h2 h3 h4 hp hpr hf hk
        go_enter Tryz.func7, Tryz.ntmps7
        go_wp2_with (first
              | ((with_reducible refine guard_load 25 ?_); clear T1; refine wpList_load_st rfl _ rfl HW1.out.1 rfl ?_)
              | (go_at_call 6; refine (scopy_any s a n cap _ HN.out HLW.out hm).mono ?_; rintro _ x2 ⟨v2, rfl, ho2, hb2⟩; obtain ⟨a2, c2, hv2, _, _, hl2, _⟩ := ho2.shape; simp only [HN.out] at hv2; subst hv2; have HX2 : Hid (OwnL x2 W.heap.size (.slice a2 n c2) s.lines ∧ Below W.heap.size W x2) := ⟨ho2, hb2⟩; clear hb2 ho2 hl2)
              | ((with_reducible refine guard_store 25 ?_); clear T2; refine wpList_store_st (s := zeroS) (s2 := s) (a2 := a2) (n2 := n) (c2 := c2) rfl _ _ rfl (StAt.new x2 zeroS (.slice none 0 0)) rfl rfl ?_; intro x3 z1 z2 z3 z4; have HA3 : Hid (Ap w s e a n cap x2.heap.size s (.slice a2 n c2) x3) := Ap.start HW1.out HLW0.out HX2.out.1 HX2.out.2 z1 (z2 _ _ ((Below.refl x2.heap.size x2).alloc (Nat.le_refl _) _) (Nat.le_refl _)); clear z1 z2 z3 z4)
              | ((with_reducible refine guard_load 25 ?_); clear T3; refine wpList_load_st rfl _ rfl HA3.out.se.st rfl ?_)
              | ((with_reducible refine guard_load 28 ?_); refine wpList_load_ev rfl _ rfl HA3.out.se.ev rfl ?_)
              | (go_at_call 15; refine (rjudge_any s e a n cap _ HN.out HA3.out.se.ln hlm).mono ?_; rw [HJ.out]; rintro _ x4 ⟨rfl, hb4⟩; have HA4 : Hid (Ap w s e a n cap x2.heap.size s (.slice a2 n c2) x4) := Ap.keep HA3.out hb4; clear hb4; have s5_8 := HA4.out.se.st.cell 8 (.int .i64 s.events) rfl; have t5 := HA4.out.tb.cell 8 (.int .i64 s.events) rfl; have u5 := HA4.out.tb.froz 8; have HA5 : Hid (Ap w s e a n cap x2.heap.size { s with events := (s.events + 1) } (.slice a2 n c2) (x4.setCell ⟨x2.heap.size, 8, none⟩ (.int .i64 (s.events + 1)))) := Ap.set HA4.out 8 _ rfl rfl; have s6_10 := HA5.out.se.st.cell 10 (.int .i64 s.stamp) rfl; have v6_8 := HA5.out.se.ev.cell 8 (.int .i64 e.stamp) rfl; have v7_7 := HA5.out.se.ev.cell 7 (.string e.who) rfl; have t7 := HA5.out.tb.cell 11 (.string s.who) rfl; have u7 := HA5.out.tb.froz 11; have HA7 : Hid (Ap w s e a n cap x2.heap.size { s with events := (s.events + 1), who := e.who } (.slice a2 n c2) ((x4.setCell ⟨x2.heap.size, 8, none⟩ (.int .i64 (s.events + 1))).setCell ⟨x2.heap.size, 11, none⟩ (.string e.who))) := Ap.set HA5.out 11 _ rfl rfl; have kk := (SE.cs HA7.out.se HK.out).2.2.2.2.2.2.1; have s8_6 := HA7.out.se.st.cell 6 (.int .i64 s.paid) rfl; have v8_4 := HA7.out.se.ev.cell 4 (.int .i64 e.price) rfl; have t8 := HA7.out.tb.cell 6 (.int .i64 s.paid) rfl; have u8 := HA7.out.tb.froz 6; have HA8 : Hid (Ap w s e a n cap x2.heap.size { s with events := (s.events + 1), who := e.who, paid := (s.paid + e.price) } (.slice a2 n c2) (((x4.setCell ⟨x2.heap.size, 8, none⟩ (.int .i64 (s.events + 1))).setCell ⟨x2.heap.size, 11, none⟩ (.string e.who)).setCell ⟨x2.heap.size, 6, none⟩ (.int .i64 (s.paid + e.price)))) := Ap.set HA7.out 6 _ rfl rfl))
        obtain ⟨E, hE⟩ : ∃ E : World → Prop, (fun x => Ap w s e a n cap x2.heap.size { s with events := (s.events + 1), who := e.who, paid := (s.paid + e.price) } (.slice a2 n c2) x) = E := ⟨_, rfl⟩
        have CS : Hid (∀ w2, E w2 → w2.cell? ⟨x2.heap.size, 6, none⟩ = some (.int .i64 (s.paid + e.price))) := fun w2 h => by rw [← hE] at h; exact h.tb.cell 6 (.int .i64 (s.paid + e.price)) rfl
        have RS : Hid (∀ w2, E w2 → StAt w2 w.heap.size s (.slice a n cap)) := fun w2 h => by rw [← hE] at h; exact h.se.st
        have CD : Hid (∀ w2, E w2 → Calls Tryz.prog 17 #[.agg (stA s (.slice a n cap))] w2 fun x w' => x = .returned (.int .i64 D) ∧ E w') := fun w2 h => by
          rw [← hE] at h
          refine (rdue_any s a n cap w2 HN.out h.se.ln HLBB.out tx0 tx1).mono ?_
          rw [HD.out]
          rintro _ w5 ⟨rfl, hb5⟩
          exact ⟨rfl, by rw [← hE]; exact h.keep hb5⟩
        have HEE : Hid (∀ y, Ap w s e a n cap x2.heap.size { s with events := (s.events + 1), who := e.who, paid := (s.paid + e.price) } (.slice a2 n c2) y → E y.drew) := fun y h => by rw [← hE]; exact h.keep (Below.refl _ _).drew
        have HEO : Hid (∀ y, E y → Ap w s e a n cap x2.heap.size { s with events := (s.events + 1), who := e.who, paid := (s.paid + e.price) } (.slice a2 n c2) y) := fun y h => by rw [← hE] at h; exact h
        clear hE
        refine wp_region_quiet (C := E) (by kernel_rfl) (by kernel_rfl) (HEE.out _ HA8.out) ?_
        simp only [List.toList_toArray]
        repeat (any_goals (first
          | go_big_quiet_skip
          | (go_big_quiet_want
             first
             | (refine quiet_val (v := .agg (stA s (.slice a n cap))) (fun w2 hw2 => exec_load_st (.tmp 2) rfl rfl (RS.out w2 hw2)) ?_
                go_big_quiet_on; simp only [Act.put, List.setIfInBounds_toArray, List.set_cons_zero, List.set_cons_succ])
             | (refine quiet_val (v := ?_) (fun w2 hw2 => ?_) ?_
                rotate_left
                · (have e6 := CS.out w2 hw2; go_simp; with_reducible rfl)
                go_big_quiet_on; simp only [Act.put, List.setIfInBounds_toArray, List.set_cons_zero, List.set_cons_succ])
             | (refine quiet_call (v := ?_) (f := ?_) (args := ?_) (fun w2 hw2 => ?_) (fun w2 hw2 => ?_) ?_
                rotate_left 3
                · (go_simp; refine ⟨?_, ?_⟩ <;> with_reducible rfl)
                · (go_at_call 17; exact CD.out _ hw2)
                (go_big_quiet_on; simp only [Act.put, List.setIfInBounds_toArray, List.set_cons_zero, List.set_cons_succ])))))
        all_goals
          refine wpQuiet_nil ?_
          intro w3 hw3
          have HZ : Hid (Ap w s e a n cap x2.heap.size { s with events := (s.events + 1), who := e.who, paid := (s.paid + e.price) } (.slice a2 n c2) w3) := HEO.out _ hw3
          clear hw3
          have q1 := HZ.out.tb.cell 1 (.int .i64 s.status) rfl
          have q2 := HZ.out.tb.froz 1
          have HY : Hid (Ap w s e a n cap x2.heap.size { s with events := (s.events + 1), who := e.who, paid := (s.paid + e.price), status := 3 } (.slice a2 n c2) (w3.setCell ⟨x2.heap.size, 1, none⟩ (.int .i64 3))) := Ap.set HZ.out 1 _ rfl rfl
          go_wp2_with (first
                | ((with_reducible refine guard_load 25 ?_); refine wpList_load_st rfl _ rfl HY.out.tb rfl ?_)
                | ((with_reducible refine guard_store 25 ?_); refine wpList_store_st (s := zeroS) (s2 := { s with events := (s.events + 1), who := e.who, paid := (s.paid + e.price), status := 3 }) (a2 := a2) (n2 := n) (c2 := c2) rfl _ _ rfl HY.out.res rfl rfl ?_; intro x9 z1 z2 z3 z4))
          refine bodyPost_ret (results_st2 rfl _ _ _ _ rfl rfl z1) rfl ⟨a2, n, c2, rfl, ?_⟩
          exact HY.out.done z2 z3
  | false =>
    by_cases hst : s.stamp < e.stamp
    · have gst : decide (s.stamp < e.stamp) = true := by simpa using hst
      cases hw : e.who.toList == [] with
      | true =>
        have hR : fineS s e = { s with events := (s.events + 1), stamp := e.stamp, paid := (s.paid + e.price) } := by simp [fineS, doS, hk, hst, hw, payS, hpb, hg]
        rw [hR]
        clear hn hl hR hjj h1 h2 h3 h4 hp hpr hf hk
        go_enter Tryz.func7, Tryz.ntmps7
        go_wp2_with (first
              | ((with_reducible refine guard_load 25 ?_); clear T1; refine wpList_load_st rfl _ rfl HW1.out.1 rfl ?_)
              | (go_at_call 6; refine (scopy_any s a n cap _ HN.out HLW.out hm).mono ?_; rintro _ x2 ⟨v2, rfl, ho2, hb2⟩; obtain ⟨a2, c2, hv2, _, _, hl2, _⟩ := ho2.shape; simp only [HN.out] at hv2; subst hv2; have HX2 : Hid (OwnL x2 W.heap.size (.slice a2 n c2) s.lines ∧ Below W.heap.size W x2) := ⟨ho2, hb2⟩; clear hb2 ho2 hl2)
              | ((with_reducible refine guard_store 25 ?_); clear T2; refine wpList_store_st (s := zeroS) (s2 := s) (a2 := a2) (n2 := n) (c2 := c2) rfl _ _ rfl (StAt.new x2 zeroS (.slice none 0 0)) rfl rfl ?_; intro x3 z1 z2 z3 z4; have HA3 : Hid (Ap w s e a n cap x2.heap.size s (.slice a2 n c2) x3) := Ap.start HW1.out HLW0.out HX2.out.1 HX2.out.2 z1 (z2 _ _ ((Below.refl x2.heap.size x2).alloc (Nat.le_refl _) _) (Nat.le_refl _)); clear z1 z2 z3 z4)
              | ((with_reducible refine guard_load 25 ?_); clear T3; refine wpList_load_st rfl _ rfl HA3.out.se.st rfl ?_)
              | ((with_reducible refine guard_load 28 ?_); refine wpList_load_ev rfl _ rfl HA3.out.se.ev rfl ?_)
              | (go_at_call 15; refine (rjudge_any s e a n cap _ HN.out HA3.out.se.ln hlm).mono ?_; rw [HJ.out]; rintro _ x4 ⟨rfl, hb4⟩; have HA4 : Hid (Ap w s e a n cap x2.heap.size s (.slice a2 n c2) x4) := Ap.keep HA3.out hb4; clear hb4; have s5_8 := HA4.out.se.st.cell 8 (.int .i64 s.events) rfl; have t5 := HA4.out.tb.cell 8 (.int .i64 s.events) rfl; have u5 := HA4.out.tb.froz 8; have HA5 : Hid (Ap w s e a n cap x2.heap.size { s with events := (s.events + 1) } (.slice a2 n c2) (x4.setCell ⟨x2.heap.size, 8, none⟩ (.int .i64 (s.events + 1)))) := Ap.set HA4.out 8 _ rfl rfl; have s6_10 := HA5.out.se.st.cell 10 (.int .i64 s.stamp) rfl; have v6_8 := HA5.out.se.ev.cell 8 (.int .i64 e.stamp) rfl; have t6 := HA5.out.tb.cell 10 (.int .i64 s.stamp) rfl; have u6 := HA5.out.tb.froz 10; have HA6 : Hid (Ap w s e a n cap x2.heap.size { s with events := (s.events + 1), stamp := e.stamp } (.slice a2 n c2) ((x4.setCell ⟨x2.heap.size, 8, none⟩ (.int .i64 (s.events + 1))).setCell ⟨x2.heap.size, 10, none⟩ (.int .i64 e.stamp))) := Ap.set HA5.out 10 _ rfl rfl; have v7_7 := HA6.out.se.ev.cell 7 (.string e.who) rfl; have kk := (SE.cs HA6.out.se HK.out).2.2.2.2.2.2.1; have s8_6 := HA6.out.se.st.cell 6 (.int .i64 s.paid) rfl; have v8_4 := HA6.out.se.ev.cell 4 (.int .i64 e.price) rfl; have t8 := HA6.out.tb.cell 6 (.int .i64 s.paid) rfl; have u8 := HA6.out.tb.froz 6; have HA8 : Hid (Ap w s e a n cap x2.heap.size { s with events := (s.events + 1), stamp := e.stamp, paid := (s.paid + e.price) } (.slice a2 n c2) (((x4.setCell ⟨x2.heap.size, 8, none⟩ (.int .i64 (s.events + 1))).setCell ⟨x2.heap.size, 10, none⟩ (.int .i64 e.stamp)).setCell ⟨x2.heap.size, 6, none⟩ (.int .i64 (s.paid + e.price)))) := Ap.set HA6.out 6 _ rfl rfl))
        obtain ⟨E, hE⟩ : ∃ E : World → Prop, (fun x => Ap w s e a n cap x2.heap.size { s with events := (s.events + 1), stamp := e.stamp, paid := (s.paid + e.price) } (.slice a2 n c2) x) = E := ⟨_, rfl⟩
        have CS : Hid (∀ w2, E w2 → w2.cell? ⟨x2.heap.size, 6, none⟩ = some (.int .i64 (s.paid + e.price))) := fun w2 h => by rw [← hE] at h; exact h.tb.cell 6 (.int .i64 (s.paid + e.price)) rfl
        have RS : Hid (∀ w2, E w2 → StAt w2 w.heap.size s (.slice a n cap)) := fun w2 h => by rw [← hE] at h; exact h.se.st
        have CD : Hid (∀ w2, E w2 → Calls Tryz.prog 17 #[.agg (stA s (.slice a n cap))] w2 fun x w' => x = .returned (.int .i64 D) ∧ E w') := fun w2 h => by
          rw [← hE] at h
          refine (rdue_any s a n cap w2 HN.out h.se.ln HLBB.out tx0 tx1).mono ?_
          rw [HD.out]
          rintro _ w5 ⟨rfl, hb5⟩
          exact ⟨rfl, by rw [← hE]; exact h.keep hb5⟩
        have HEE : Hid (∀ y, Ap w s e a n cap x2.heap.size { s with events := (s.events + 1), stamp := e.stamp, paid := (s.paid + e.price) } (.slice a2 n c2) y → E y.drew) := fun y h => by rw [← hE]; exact h.keep (Below.refl _ _).drew
        have HEO : Hid (∀ y, E y → Ap w s e a n cap x2.heap.size { s with events := (s.events + 1), stamp := e.stamp, paid := (s.paid + e.price) } (.slice a2 n c2) y) := fun y h => by rw [← hE] at h; exact h
        clear hE
        refine wp_region_quiet (C := E) (by kernel_rfl) (by kernel_rfl) (HEE.out _ HA8.out) ?_
        simp only [List.toList_toArray]
        repeat (any_goals (first
          | go_big_quiet_skip
          | (go_big_quiet_want
             first
             | (refine quiet_val (v := .agg (stA s (.slice a n cap))) (fun w2 hw2 => exec_load_st (.tmp 2) rfl rfl (RS.out w2 hw2)) ?_
                go_big_quiet_on; simp only [Act.put, List.setIfInBounds_toArray, List.set_cons_zero, List.set_cons_succ])
             | (refine quiet_val (v := ?_) (fun w2 hw2 => ?_) ?_
                rotate_left
                · (have e6 := CS.out w2 hw2; go_simp; with_reducible rfl)
                go_big_quiet_on; simp only [Act.put, List.setIfInBounds_toArray, List.set_cons_zero, List.set_cons_succ])
             | (refine quiet_call (v := ?_) (f := ?_) (args := ?_) (fun w2 hw2 => ?_) (fun w2 hw2 => ?_) ?_
                rotate_left 3
                · (go_simp; refine ⟨?_, ?_⟩ <;> with_reducible rfl)
                · (go_at_call 17; exact CD.out _ hw2)
                (go_big_quiet_on; simp only [Act.put, List.setIfInBounds_toArray, List.set_cons_zero, List.set_cons_succ])))))
        all_goals
          refine wpQuiet_nil ?_
          intro w3 hw3
          have HZ : Hid (Ap w s e a n cap x2.heap.size { s with events := (s.events + 1), stamp := e.stamp, paid := (s.paid + e.price) } (.slice a2 n c2) w3) := HEO.out _ hw3
          clear hw3
          go_wp2_with (first
                | ((with_reducible refine guard_load 25 ?_); refine wpList_load_st rfl _ rfl HZ.out.tb rfl ?_)
                | ((with_reducible refine guard_store 25 ?_); refine wpList_store_st (s := zeroS) (s2 := { s with events := (s.events + 1), stamp := e.stamp, paid := (s.paid + e.price) }) (a2 := a2) (n2 := n) (c2 := c2) rfl _ _ rfl HZ.out.res rfl rfl ?_; intro x9 z1 z2 z3 z4))
          refine bodyPost_ret (results_st2 rfl _ _ _ _ rfl rfl z1) rfl ⟨a2, n, c2, rfl, ?_⟩
          exact HZ.out.done z2 z3
      | false =>
        have hR : fineS s e = { s with events := (s.events + 1), stamp := e.stamp, who := e.who, paid := (s.paid + e.price) } := by simp [fineS, doS, hk, hst, hw, payS, hpb, hg]
        rw [hR]
        clear hn hl hR hjj h1 h2 h3 h4 hp hpr hf hk
        go_enter Tryz.func7, Tryz.ntmps7
        go_wp2_with (first
              | ((with_reducible refine guard_load 25 ?_); clear T1; refine wpList_load_st rfl _ rfl HW1.out.1 rfl ?_)
              | (go_at_call 6; refine (scopy_any s a n cap _ HN.out HLW.out hm).mono ?_; rintro _ x2 ⟨v2, rfl, ho2, hb2⟩; obtain ⟨a2, c2, hv2, _, _, hl2, _⟩ := ho2.shape; simp only [HN.out] at hv2; subst hv2; have HX2 : Hid (OwnL x2 W.heap.size (.slice a2 n c2) s.lines ∧ Below W.heap.size W x2) := ⟨ho2, hb2⟩; clear hb2 ho2 hl2)
              | ((with_reducible refine guard_store 25 ?_); clear T2; refine wpList_store_st (s := zeroS) (s2 := s) (a2 := a2) (n2 := n) (c2 := c2) rfl _ _ rfl (StAt.new x2 zeroS (.slice none 0 0)) rfl rfl ?_; intro x3 z1 z2 z3 z4; have HA3 : Hid (Ap w s e a n cap x2.heap.size s (.slice a2 n c2) x3) := Ap.start HW1.out HLW0.out HX2.out.1 HX2.out.2 z1 (z2 _ _ ((Below.refl x2.heap.size x2).alloc (Nat.le_refl _) _) (Nat.le_refl _)); clear z1 z2 z3 z4)
              | ((with_reducible refine guard_load 25 ?_); clear T3; refine wpList_load_st rfl _ rfl HA3.out.se.st rfl ?_)
              | ((with_reducible refine guard_load 28 ?_); refine wpList_load_ev rfl _ rfl HA3.out.se.ev rfl ?_)
              | (go_at_call 15; refine (rjudge_any s e a n cap _ HN.out HA3.out.se.ln hlm).mono ?_; rw [HJ.out]; rintro _ x4 ⟨rfl, hb4⟩; have HA4 : Hid (Ap w s e a n cap x2.heap.size s (.slice a2 n c2) x4) := Ap.keep HA3.out hb4; clear hb4; have s5_8 := HA4.out.se.st.cell 8 (.int .i64 s.events) rfl; have t5 := HA4.out.tb.cell 8 (.int .i64 s.events) rfl; have u5 := HA4.out.tb.froz 8; have HA5 : Hid (Ap w s e a n cap x2.heap.size { s with events := (s.events + 1) } (.slice a2 n c2) (x4.setCell ⟨x2.heap.size, 8, none⟩ (.int .i64 (s.events + 1)))) := Ap.set HA4.out 8 _ rfl rfl; have s6_10 := HA5.out.se.st.cell 10 (.int .i64 s.stamp) rfl; have v6_8 := HA5.out.se.ev.cell 8 (.int .i64 e.stamp) rfl; have t6 := HA5.out.tb.cell 10 (.int .i64 s.stamp) rfl; have u6 := HA5.out.tb.froz 10; have HA6 : Hid (Ap w s e a n cap x2.heap.size { s with events := (s.events + 1), stamp := e.stamp } (.slice a2 n c2) ((x4.setCell ⟨x2.heap.size, 8, none⟩ (.int .i64 (s.events + 1))).setCell ⟨x2.heap.size, 10, none⟩ (.int .i64 e.stamp))) := Ap.set HA5.out 10 _ rfl rfl; have v7_7 := HA6.out.se.ev.cell 7 (.string e.who) rfl; have t7 := HA6.out.tb.cell 11 (.string s.who) rfl; have u7 := HA6.out.tb.froz 11; have HA7 : Hid (Ap w s e a n cap x2.heap.size { s with events := (s.events + 1), stamp := e.stamp, who := e.who } (.slice a2 n c2) (((x4.setCell ⟨x2.heap.size, 8, none⟩ (.int .i64 (s.events + 1))).setCell ⟨x2.heap.size, 10, none⟩ (.int .i64 e.stamp)).setCell ⟨x2.heap.size, 11, none⟩ (.string e.who))) := Ap.set HA6.out 11 _ rfl rfl; have kk := (SE.cs HA7.out.se HK.out).2.2.2.2.2.2.1; have s8_6 := HA7.out.se.st.cell 6 (.int .i64 s.paid) rfl; have v8_4 := HA7.out.se.ev.cell 4 (.int .i64 e.price) rfl; have t8 := HA7.out.tb.cell 6 (.int .i64 s.paid) rfl; have u8 := HA7.out.tb.froz 6; have HA8 : Hid (Ap w s e a n cap x2.heap.size { s with events := (s.events + 1), stamp := e.stamp, who := e.who, paid := (s.paid + e.price) } (.slice a2 n c2) ((((x4.setCell ⟨x2.heap.size, 8, none⟩ (.int .i64 (s.events + 1))).setCell ⟨x2.heap.size, 10, none⟩ (.int .i64 e.stamp)).setCell ⟨x2.heap.size, 11, none⟩ (.string e.who)).setCell ⟨x2.heap.size, 6, none⟩ (.int .i64 (s.paid + e.price)))) := Ap.set HA7.out 6 _ rfl rfl))
        obtain ⟨E, hE⟩ : ∃ E : World → Prop, (fun x => Ap w s e a n cap x2.heap.size { s with events := (s.events + 1), stamp := e.stamp, who := e.who, paid := (s.paid + e.price) } (.slice a2 n c2) x) = E := ⟨_, rfl⟩
        have CS : Hid (∀ w2, E w2 → w2.cell? ⟨x2.heap.size, 6, none⟩ = some (.int .i64 (s.paid + e.price))) := fun w2 h => by rw [← hE] at h; exact h.tb.cell 6 (.int .i64 (s.paid + e.price)) rfl
        have RS : Hid (∀ w2, E w2 → StAt w2 w.heap.size s (.slice a n cap)) := fun w2 h => by rw [← hE] at h; exact h.se.st
        have CD : Hid (∀ w2, E w2 → Calls Tryz.prog 17 #[.agg (stA s (.slice a n cap))] w2 fun x w' => x = .returned (.int .i64 D) ∧ E w') := fun w2 h => by
          rw [← hE] at h
          refine (rdue_any s a n cap w2 HN.out h.se.ln HLBB.out tx0 tx1).mono ?_
          rw [HD.out]
          rintro _ w5 ⟨rfl, hb5⟩
          exact ⟨rfl, by rw [← hE]; exact h.keep hb5⟩
        have HEE : Hid (∀ y, Ap w s e a n cap x2.heap.size { s with events := (s.events + 1), stamp := e.stamp, who := e.who, paid := (s.paid + e.price) } (.slice a2 n c2) y → E y.drew) := fun y h => by rw [← hE]; exact h.keep (Below.refl _ _).drew
        have HEO : Hid (∀ y, E y → Ap w s e a n cap x2.heap.size { s with events := (s.events + 1), stamp := e.stamp, who := e.who, paid := (s.paid + e.price) } (.slice a2 n c2) y) := fun y h => by rw [← hE] at h; exact h
        clear hE
        refine wp_region_quiet (C := E) (by kernel_rfl) (by kernel_rfl) (HEE.out _ HA8.out) ?_
        simp only [List.toList_toArray]
        repeat (any_goals (first
          | go_big_quiet_skip
          | (go_big_quiet_want
             first
             | (refine quiet_val (v := .agg (stA s (.slice a n cap))) (fun w2 hw2 => exec_load_st (.tmp 2) rfl rfl (RS.out w2 hw2)) ?_
                go_big_quiet_on; simp only [Act.put, List.setIfInBounds_toArray, List.set_cons_zero, List.set_cons_succ])
             | (refine quiet_val (v := ?_) (fun w2 hw2 => ?_) ?_
                rotate_left
                · (have e6 := CS.out w2 hw2; go_simp; with_reducible rfl)
                go_big_quiet_on; simp only [Act.put, List.setIfInBounds_toArray, List.set_cons_zero, List.set_cons_succ])
             | (refine quiet_call (v := ?_) (f := ?_) (args := ?_) (fun w2 hw2 => ?_) (fun w2 hw2 => ?_) ?_
                rotate_left 3
                · (go_simp; refine ⟨?_, ?_⟩ <;> with_reducible rfl)
                · (go_at_call 17; exact CD.out _ hw2)
                (go_big_quiet_on; simp only [Act.put, List.setIfInBounds_toArray, List.set_cons_zero, List.set_cons_succ])))))
        all_goals
          refine wpQuiet_nil ?_
          intro w3 hw3
          have HZ : Hid (Ap w s e a n cap x2.heap.size { s with events := (s.events + 1), stamp := e.stamp, who := e.who, paid := (s.paid + e.price) } (.slice a2 n c2) w3) := HEO.out _ hw3
          clear hw3
          go_wp2_with (first
                | ((with_reducible refine guard_load 25 ?_); refine wpList_load_st rfl _ rfl HZ.out.tb rfl ?_)
                | ((with_reducible refine guard_store 25 ?_); refine wpList_store_st (s := zeroS) (s2 := { s with events := (s.events + 1), stamp := e.stamp, who := e.who, paid := (s.paid + e.price) }) (a2 := a2) (n2 := n) (c2 := c2) rfl _ _ rfl HZ.out.res rfl rfl ?_; intro x9 z1 z2 z3 z4))
          refine bodyPost_ret (results_st2 rfl _ _ _ _ rfl rfl z1) rfl ⟨a2, n, c2, rfl, ?_⟩
          exact HZ.out.done z2 z3
    · have gst : decide (s.stamp < e.stamp) = false := by simpa using hst
      cases hw : e.who.toList == [] with
      | true =>
        have hR : fineS s e = { s with events := (s.events + 1), paid := (s.paid + e.price) } := by simp [fineS, doS, hk, hst, hw, payS, hpb, hg]
        rw [hR]
        clear hn hl hR hjj h1 h2 h3 h4 hp hpr hf hk
        go_enter Tryz.func7, Tryz.ntmps7
        go_wp2_with (first
              | ((with_reducible refine guard_load 25 ?_); clear T1; refine wpList_load_st rfl _ rfl HW1.out.1 rfl ?_)
              | (go_at_call 6; refine (scopy_any s a n cap _ HN.out HLW.out hm).mono ?_; rintro _ x2 ⟨v2, rfl, ho2, hb2⟩; obtain ⟨a2, c2, hv2, _, _, hl2, _⟩ := ho2.shape; simp only [HN.out] at hv2; subst hv2; have HX2 : Hid (OwnL x2 W.heap.size (.slice a2 n c2) s.lines ∧ Below W.heap.size W x2) := ⟨ho2, hb2⟩; clear hb2 ho2 hl2)
              | ((with_reducible refine guard_store 25 ?_); clear T2; refine wpList_store_st (s := zeroS) (s2 := s) (a2 := a2) (n2 := n) (c2 := c2) rfl _ _ rfl (StAt.new x2 zeroS (.slice none 0 0)) rfl rfl ?_; intro x3 z1 z2 z3 z4; have HA3 : Hid (Ap w s e a n cap x2.heap.size s (.slice a2 n c2) x3) := Ap.start HW1.out HLW0.out HX2.out.1 HX2.out.2 z1 (z2 _ _ ((Below.refl x2.heap.size x2).alloc (Nat.le_refl _) _) (Nat.le_refl _)); clear z1 z2 z3 z4)
              | ((with_reducible refine guard_load 25 ?_); clear T3; refine wpList_load_st rfl _ rfl HA3.out.se.st rfl ?_)
              | ((with_reducible refine guard_load 28 ?_); refine wpList_load_ev rfl _ rfl HA3.out.se.ev rfl ?_)
              | (go_at_call 15; refine (rjudge_any s e a n cap _ HN.out HA3.out.se.ln hlm).mono ?_; rw [HJ.out]; rintro _ x4 ⟨rfl, hb4⟩; have HA4 : Hid (Ap w s e a n cap x2.heap.size s (.slice a2 n c2) x4) := Ap.keep HA3.out hb4; clear hb4; have s5_8 := HA4.out.se.st.cell 8 (.int .i64 s.events) rfl; have t5 := HA4.out.tb.cell 8 (.int .i64 s.events) rfl; have u5 := HA4.out.tb.froz 8; have HA5 : Hid (Ap w s e a n cap x2.heap.size { s with events := (s.events + 1) } (.slice a2 n c2) (x4.setCell ⟨x2.heap.size, 8, none⟩ (.int .i64 (s.events + 1)))) := Ap.set HA4.out 8 _ rfl rfl; have s6_10 := HA5.out.se.st.cell 10 (.int .i64 s.stamp) rfl; have v6_8 := HA5.out.se.ev.cell 8 (.int .i64 e.stamp) rfl; have v7_7 := HA5.out.se.ev.cell 7 (.string e.who) rfl; have kk := (SE.cs HA5.out.se HK.out).2.2.2.2.2.2.1; have s8_6 := HA5.out.se.st.cell 6 (.int .i64 s.paid) rfl; have v8_4 := HA5.out.se.ev.cell 4 (.int .i64 e.price) rfl; have t8 := HA5.out.tb.cell 6 (.int .i64 s.paid) rfl; have u8 := HA5.out.tb.froz 6; have HA8 : Hid (Ap w s e a n cap x2.heap.size { s with events := (s.events + 1), paid := (s.paid + e.price) } (.slice a2 n c2) ((x4.setCell ⟨x2.heap.size, 8, none⟩ (.int .i64 (s.events + 1))).setCell ⟨x2.heap.size, 6, none⟩ (.int .i64 (s.paid + e.price)))) := Ap.set HA5.out 6 _ rfl rfl))
        obtain ⟨E, hE⟩ : ∃ E : World → Prop, (fun x => Ap w s e a n cap x2.heap.size { s with events := (s.events + 1), paid := (s.paid + e.price) } (.slice a2 n c2) x) = E := ⟨_, rfl⟩
        have CS : Hid (∀ w2, E w2 → w2.cell? ⟨x2.heap.size, 6, none⟩ = some (.int .i64 (s.paid + e.price))) := fun w2 h => by rw [← hE] at h; exact h.tb.cell 6 (.int .i64 (s.paid + e.price)) rfl
        have RS : Hid (∀ w2, E w2 → StAt w2 w.heap.size s (.slice a n cap)) := fun w2 h => by rw [← hE] at h; exact h.se.st
        have CD : Hid (∀ w2, E w2 → Calls Tryz.prog 17 #[.agg (stA s (.slice a n cap))] w2 fun x w' => x = .returned (.int .i64 D) ∧ E w') := fun w2 h => by
          rw [← hE] at h
          refine (rdue_any s a n cap w2 HN.out h.se.ln HLBB.out tx0 tx1).mono ?_
          rw [HD.out]
          rintro _ w5 ⟨rfl, hb5⟩
          exact ⟨rfl, by rw [← hE]; exact h.keep hb5⟩
        have HEE : Hid (∀ y, Ap w s e a n cap x2.heap.size { s with events := (s.events + 1), paid := (s.paid + e.price) } (.slice a2 n c2) y → E y.drew) := fun y h => by rw [← hE]; exact h.keep (Below.refl _ _).drew
        have HEO : Hid (∀ y, E y → Ap w s e a n cap x2.heap.size { s with events := (s.events + 1), paid := (s.paid + e.price) } (.slice a2 n c2) y) := fun y h => by rw [← hE] at h; exact h
        clear hE
        refine wp_region_quiet (C := E) (by kernel_rfl) (by kernel_rfl) (HEE.out _ HA8.out) ?_
        simp only [List.toList_toArray]
        repeat (any_goals (first
          | go_big_quiet_skip
          | (go_big_quiet_want
             first
             | (refine quiet_val (v := .agg (stA s (.slice a n cap))) (fun w2 hw2 => exec_load_st (.tmp 2) rfl rfl (RS.out w2 hw2)) ?_
                go_big_quiet_on; simp only [Act.put, List.setIfInBounds_toArray, List.set_cons_zero, List.set_cons_succ])
             | (refine quiet_val (v := ?_) (fun w2 hw2 => ?_) ?_
                rotate_left
                · (have e6 := CS.out w2 hw2; go_simp; with_reducible rfl)
                go_big_quiet_on; simp only [Act.put, List.setIfInBounds_toArray, List.set_cons_zero, List.set_cons_succ])
             | (refine quiet_call (v := ?_) (f := ?_) (args := ?_) (fun w2 hw2 => ?_) (fun w2 hw2 => ?_) ?_
                rotate_left 3
                · (go_simp; refine ⟨?_, ?_⟩ <;> with_reducible rfl)
                · (go_at_call 17; exact CD.out _ hw2)
                (go_big_quiet_on; simp only [Act.put, List.setIfInBounds_toArray, List.set_cons_zero, List.set_cons_succ])))))
        all_goals
          refine wpQuiet_nil ?_
          intro w3 hw3
          have HZ : Hid (Ap w s e a n cap x2.heap.size { s with events := (s.events + 1), paid := (s.paid + e.price) } (.slice a2 n c2) w3) := HEO.out _ hw3
          clear hw3
          go_wp2_with (first
                | ((with_reducible refine guard_load 25 ?_); refine wpList_load_st rfl _ rfl HZ.out.tb rfl ?_)
                | ((with_reducible refine guard_store 25 ?_); refine wpList_store_st (s := zeroS) (s2 := { s with events := (s.events + 1), paid := (s.paid + e.price) }) (a2 := a2) (n2 := n) (c2 := c2) rfl _ _ rfl HZ.out.res rfl rfl ?_; intro x9 z1 z2 z3 z4))
          refine bodyPost_ret (results_st2 rfl _ _ _ _ rfl rfl z1) rfl ⟨a2, n, c2, rfl, ?_⟩
          exact HZ.out.done z2 z3
      | false =>
        have hR : fineS s e = { s with events := (s.events + 1), who := e.who, paid := (s.paid + e.price) } := by simp [fineS, doS, hk, hst, hw, payS, hpb, hg]
        rw [hR]
        clear hn hl hR hjj h1 h2 h3 h4 hp hpr hf hk
        go_enter Tryz.func7, Tryz.ntmps7
        go_wp2_with (first
              | ((with_reducible refine guard_load 25 ?_); clear T1; refine wpList_load_st rfl _ rfl HW1.out.1 rfl ?_)
              | (go_at_call 6; refine (scopy_any s a n cap _ HN.out HLW.out hm).mono ?_; rintro _ x2 ⟨v2, rfl, ho2, hb2⟩; obtain ⟨a2, c2, hv2, _, _, hl2, _⟩ := ho2.shape; simp only [HN.out] at hv2; subst hv2; have HX2 : Hid (OwnL x2 W.heap.size (.slice a2 n c2) s.lines ∧ Below W.heap.size W x2) := ⟨ho2, hb2⟩; clear hb2 ho2 hl2)
              | ((with_reducible refine guard_store 25 ?_); clear T2; refine wpList_store_st (s := zeroS) (s2 := s) (a2 := a2) (n2 := n) (c2 := c2) rfl _ _ rfl (StAt.new x2 zeroS (.slice none 0 0)) rfl rfl ?_; intro x3 z1 z2 z3 z4; have HA3 : Hid (Ap w s e a n cap x2.heap.size s (.slice a2 n c2) x3) := Ap.start HW1.out HLW0.out HX2.out.1 HX2.out.2 z1 (z2 _ _ ((Below.refl x2.heap.size x2).alloc (Nat.le_refl _) _) (Nat.le_refl _)); clear z1 z2 z3 z4)
              | ((with_reducible refine guard_load 25 ?_); clear T3; refine wpList_load_st rfl _ rfl HA3.out.se.st rfl ?_)
              | ((with_reducible refine guard_load 28 ?_); refine wpList_load_ev rfl _ rfl HA3.out.se.ev rfl ?_)
              | (go_at_call 15; refine (rjudge_any s e a n cap _ HN.out HA3.out.se.ln hlm).mono ?_; rw [HJ.out]; rintro _ x4 ⟨rfl, hb4⟩; have HA4 : Hid (Ap w s e a n cap x2.heap.size s (.slice a2 n c2) x4) := Ap.keep HA3.out hb4; clear hb4; have s5_8 := HA4.out.se.st.cell 8 (.int .i64 s.events) rfl; have t5 := HA4.out.tb.cell 8 (.int .i64 s.events) rfl; have u5 := HA4.out.tb.froz 8; have HA5 : Hid (Ap w s e a n cap x2.heap.size { s with events := (s.events + 1) } (.slice a2 n c2) (x4.setCell ⟨x2.heap.size, 8, none⟩ (.int .i64 (s.events + 1)))) := Ap.set HA4.out 8 _ rfl rfl; have s6_10 := HA5.out.se.st.cell 10 (.int .i64 s.stamp) rfl; have v6_8 := HA5.out.se.ev.cell 8 (.int .i64 e.stamp) rfl; have v7_7 := HA5.out.se.ev.cell 7 (.string e.who) rfl; have t7 := HA5.out.tb.cell 11 (.string s.who) rfl; have u7 := HA5.out.tb.froz 11; have HA7 : Hid (Ap w s e a n cap x2.heap.size { s with events := (s.events + 1), who := e.who } (.slice a2 n c2) ((x4.setCell ⟨x2.heap.size, 8, none⟩ (.int .i64 (s.events + 1))).setCell ⟨x2.heap.size, 11, none⟩ (.string e.who))) := Ap.set HA5.out 11 _ rfl rfl; have kk := (SE.cs HA7.out.se HK.out).2.2.2.2.2.2.1; have s8_6 := HA7.out.se.st.cell 6 (.int .i64 s.paid) rfl; have v8_4 := HA7.out.se.ev.cell 4 (.int .i64 e.price) rfl; have t8 := HA7.out.tb.cell 6 (.int .i64 s.paid) rfl; have u8 := HA7.out.tb.froz 6; have HA8 : Hid (Ap w s e a n cap x2.heap.size { s with events := (s.events + 1), who := e.who, paid := (s.paid + e.price) } (.slice a2 n c2) (((x4.setCell ⟨x2.heap.size, 8, none⟩ (.int .i64 (s.events + 1))).setCell ⟨x2.heap.size, 11, none⟩ (.string e.who)).setCell ⟨x2.heap.size, 6, none⟩ (.int .i64 (s.paid + e.price)))) := Ap.set HA7.out 6 _ rfl rfl))
        obtain ⟨E, hE⟩ : ∃ E : World → Prop, (fun x => Ap w s e a n cap x2.heap.size { s with events := (s.events + 1), who := e.who, paid := (s.paid + e.price) } (.slice a2 n c2) x) = E := ⟨_, rfl⟩
        have CS : Hid (∀ w2, E w2 → w2.cell? ⟨x2.heap.size, 6, none⟩ = some (.int .i64 (s.paid + e.price))) := fun w2 h => by rw [← hE] at h; exact h.tb.cell 6 (.int .i64 (s.paid + e.price)) rfl
        have RS : Hid (∀ w2, E w2 → StAt w2 w.heap.size s (.slice a n cap)) := fun w2 h => by rw [← hE] at h; exact h.se.st
        have CD : Hid (∀ w2, E w2 → Calls Tryz.prog 17 #[.agg (stA s (.slice a n cap))] w2 fun x w' => x = .returned (.int .i64 D) ∧ E w') := fun w2 h => by
          rw [← hE] at h
          refine (rdue_any s a n cap w2 HN.out h.se.ln HLBB.out tx0 tx1).mono ?_
          rw [HD.out]
          rintro _ w5 ⟨rfl, hb5⟩
          exact ⟨rfl, by rw [← hE]; exact h.keep hb5⟩
        have HEE : Hid (∀ y, Ap w s e a n cap x2.heap.size { s with events := (s.events + 1), who := e.who, paid := (s.paid + e.price) } (.slice a2 n c2) y → E y.drew) := fun y h => by rw [← hE]; exact h.keep (Below.refl _ _).drew
        have HEO : Hid (∀ y, E y → Ap w s e a n cap x2.heap.size { s with events := (s.events + 1), who := e.who, paid := (s.paid + e.price) } (.slice a2 n c2) y) := fun y h => by rw [← hE] at h; exact h
        clear hE
        refine wp_region_quiet (C := E) (by kernel_rfl) (by kernel_rfl) (HEE.out _ HA8.out) ?_
        simp only [List.toList_toArray]
        repeat (any_goals (first
          | go_big_quiet_skip
          | (go_big_quiet_want
             first
             | (refine quiet_val (v := .agg (stA s (.slice a n cap))) (fun w2 hw2 => exec_load_st (.tmp 2) rfl rfl (RS.out w2 hw2)) ?_
                go_big_quiet_on; simp only [Act.put, List.setIfInBounds_toArray, List.set_cons_zero, List.set_cons_succ])
             | (refine quiet_val (v := ?_) (fun w2 hw2 => ?_) ?_
                rotate_left
                · (have e6 := CS.out w2 hw2; go_simp; with_reducible rfl)
                go_big_quiet_on; simp only [Act.put, List.setIfInBounds_toArray, List.set_cons_zero, List.set_cons_succ])
             | (refine quiet_call (v := ?_) (f := ?_) (args := ?_) (fun w2 hw2 => ?_) (fun w2 hw2 => ?_) ?_
                rotate_left 3
                · (go_simp; refine ⟨?_, ?_⟩ <;> with_reducible rfl)
                · (go_at_call 17; exact CD.out _ hw2)
                (go_big_quiet_on; simp only [Act.put, List.setIfInBounds_toArray, List.set_cons_zero, List.set_cons_succ])))))
        all_goals
          refine wpQuiet_nil ?_
          intro w3 hw3
          have HZ : Hid (Ap w s e a n cap x2.heap.size { s with events := (s.events + 1), who := e.who, paid := (s.paid + e.price) } (.slice a2 n c2) w3) := HEO.out _ hw3
          clear hw3
          go_wp2_with (first
                | ((with_reducible refine guard_load 25 ?_); refine wpList_load_st rfl _ rfl HZ.out.tb rfl ?_)
                | ((with_reducible refine guard_store 25 ?_); refine wpList_store_st (s := zeroS) (s2 := { s with events := (s.events + 1), who := e.who, paid := (s.paid + e.price) }) (a2 := a2) (n2 := n) (c2 := c2) rfl _ _ rfl HZ.out.res rfl rfl ?_; intro x9 z1 z2 z3 z4))
          refine bodyPost_ret (results_st2 rfl _ _ _ _ rfl rfl z1) rfl ⟨a2, n, c2, rfl, ?_⟩
          exact HZ.out.done z2 z3
end Go.Proofs.YtldbdhhbmnbmaaaGreat
