/- Own texts, joined: Ra1, Ra5, Ra7, Ra8, Ra9. -/
import Derived.Test.YtldbdhhbmnbmaaaGreatM78
namespace Go.Proofs.YtldbdhhbmnbmaaaGreat
open Go.ChangeShapes Go.WideShapes Go.ChangeAt Go.RowKit
set_option linter.unusedVariables false
set_option linter.unusedSimpArgs false
set_option maxRecDepth 20000 in
set_option maxHeartbeats 16000000 in
theorem rapply_1 (s : St) (e : Ev) (a : Option Addr) (n cap : Nat) (w : World) (hn : s.lines.length = n) (hl : Lns w a s.lines) (hm : n * 32 ≤ 140737488351232) (hj : judS s e = 0) (hk : e.kind = 1) :
    Calls Tryz.prog 7 #[.agg (stA s (.slice a n cap)), .agg (evA e)] w fun r w' => ApplyPost (nextS s e) (judS s e) w r w' := by
  obtain ⟨W, hW, h1, h2, h3, h4⟩ := t3_new w s e (.slice a n cap)
  have HN : Hid (s.lines.length = n) := hn
  have hlm : n ≤ maxLen := by unfold maxLen; omega
  have HW1 : Hid (StAt W w.heap.size s (.slice a n cap) ∧ EvAt W (w.heap.size + 1) e ∧ StAt W (w.heap.size + 2) zeroS (.slice none 0 0) ∧ Below w.heap.size w W) := ⟨h1, h2, h3, h4⟩
  have HLW0 : Hid (Lns w a s.lines) := hl
  have HLW : Hid (Lns W a s.lines) := hl.keep h4
  obtain ⟨j, hjj⟩ : ∃ j, judS s e = j := ⟨_, rfl⟩
  have HJ : Hid (judS s e = j) := hjj
  have T1 : Hid True := trivial
  have T2 : Hid True := trivial
  have T3 : Hid True := trivial
  have hf : nextS s e = fineS s e := by unfold nextS; rw [if_neg (by rw [hj]; decide), if_pos hj]
  have hp := vl_of (jud_parts (s := s) (e := e) (by rw [hj]; decide)).1
  have he1 := hp.e1
  have he2 := hp.e2
  have hpr := right_of (jud_parts (s := s) (e := e) (by rw [hj]; decide)).2.1
  have pp0 : 0 ≤ e.price := hpr.price0
  have pp1 : e.price ≤ 1000000000000000 := by have := hpr.price1; have h5 : hiP 5 ≤ 1000000000000000 := (by decide); omega
  have pd0 : 0 ≤ s.refunded := hp.f1
  have pd1 : s.refunded ≤ s.paid := hp.f2
  have pd2 : s.paid ≤ 240000000000000 := by have := hp.p2; have := (vld_due (vl_to hp)).2.2.2.2.2.2.2; omega
  rw [hjj] at hj
  subst hj
  rw [hf, hjj]
  have HK : Hid (e.kind = 1) := hk
  by_cases hst : s.stamp < e.stamp
  · have gst : decide (s.stamp < e.stamp) = true := by simpa using hst
    cases hw : e.who.toList == [] with
    | true =>
      have hR : fineS s e = { s with events := (s.events + 1), stamp := e.stamp, status := 1, cur := e.cur, tax := e.tax } := by simp [fineS, doS, hk, hst, hw]
      rw [hR]
      clear hn hl hR hjj h1 h2 h3 h4 hp hpr hf hk
      go_enter Tryz.func7, Tryz.ntmps7
      go_wp2_with (first
            | ((with_reducible refine guard_load 25 ?_); clear T1; refine wpList_load_st rfl _ rfl HW1.out.1 rfl ?_)
            | (go_at_call 6; refine (scopy_any s a n cap _ HN.out HLW.out hm).mono ?_; rintro _ x2 ⟨v2, rfl, ho2, hb2⟩; obtain ⟨a2, c2, hv2, _, _, hl2, _⟩ := ho2.shape; simp only [HN.out] at hv2; subst hv2; have HX2 : Hid (OwnL x2 W.heap.size (.slice a2 n c2) s.lines ∧ Below W.heap.size W x2) := ⟨ho2, hb2⟩; clear hb2 ho2 hl2)
            | ((with_reducible refine guard_store 25 ?_); clear T2; refine wpList_store_st (s := zeroS) (s2 := s) (a2 := a2) (n2 := n) (c2 := c2) rfl _ _ rfl (StAt.new x2 zeroS (.slice none 0 0)) rfl rfl ?_; intro x3 z1 z2 z3 z4; have HA3 : Hid (Ap w s e a n cap x2.heap.size s (.slice a2 n c2) x3) := Ap.start HW1.out HLW0.out HX2.out.1 HX2.out.2 z1 (z2 _ _ ((Below.refl x2.heap.size x2).alloc (Nat.le_refl _) _) (Nat.le_refl _)); clear z1 z2 z3 z4)
            | ((with_reducible refine guard_load 25 ?_); clear T3; refine wpList_load_st rfl _ rfl HA3.out.se.st rfl ?_)
            | ((with_reducible refine guard_load 28 ?_); refine wpList_load_ev rfl _ rfl HA3.out.se.ev rfl ?_)
            | (go_at_call 15; refine (rjudge_any s e a n cap _ HN.out HA3.out.se.ln hlm).mono ?_; rw [HJ.out]; rintro _ x4 ⟨rfl, hb4⟩; have HA4 : Hid (Ap w s e a n cap x2.heap.size s (.slice a2 n c2) x4) := Ap.keep HA3.out hb4; clear hb4; have s5_8 := HA4.out.se.st.cell 8 (.int .i64 s.events) rfl; have t5 := HA4.out.tb.cell 8 (.int .i64 s.events) rfl; have u5 := HA4.out.tb.froz 8; have HA5 : Hid (Ap w s e a n cap x2.heap.size { s with events := (s.events + 1) } (.slice a2 n c2) (x4.setCell ⟨x2.heap.size, 8, none⟩ (.int .i64 (s.events + 1)))) := Ap.set HA4.out 8 _ rfl rfl; have s6_10 := HA5.out.se.st.cell 10 (.int .i64 s.stamp) rfl; have v6_8 := HA5.out.se.ev.cell 8 (.int .i64 e.stamp) rfl; have t6 := HA5.out.tb.cell 10 (.int .i64 s.stamp) rfl; have u6 := HA5.out.tb.froz 10; have HA6 : Hid (Ap w s e a n cap x2.heap.size { s with events := (s.events + 1), stamp := e.stamp } (.slice a2 n c2) ((x4.setCell ⟨x2.heap.size, 8, none⟩ (.int .i64 (s.events + 1))).setCell ⟨x2.heap.size, 10, none⟩ (.int .i64 e.stamp))) := Ap.set HA5.out 10 _ rfl rfl; have v7_7 := HA6.out.se.ev.cell 7 (.string e.who) rfl; have kk := (SE.cs HA6.out.se HK.out).2.2.2.2.2.2.1; have t8 := HA6.out.tb.cell 1 (.int .i64 s.status) rfl; have u8 := HA6.out.tb.froz 1; have HA8 : Hid (Ap w s e a n cap x2.heap.size { s with events := (s.events + 1), stamp := e.stamp, status := 1 } (.slice a2 n c2) (((x4.setCell ⟨x2.heap.size, 8, none⟩ (.int .i64 (s.events + 1))).setCell ⟨x2.heap.size, 10, none⟩ (.int .i64 e.stamp)).setCell ⟨x2.heap.size, 1, none⟩ (.int .i64 1))) := Ap.set HA6.out 1 _ rfl rfl; have v9_5 := HA8.out.se.ev.cell 5 (.int .i64 e.cur) rfl; have t9 := HA8.out.tb.cell 3 (.int .i64 s.cur) rfl; have u9 := HA8.out.tb.froz 3; have HA9 : Hid (Ap w s e a n cap x2.heap.size { s with events := (s.events + 1), stamp := e.stamp, status := 1, cur := e.cur } (.slice a2 n c2) ((((x4.setCell ⟨x2.heap.size, 8, none⟩ (.int .i64 (s.events + 1))).setCell ⟨x2.heap.size, 10, none⟩ (.int .i64 e.stamp)).setCell ⟨x2.heap.size, 1, none⟩ (.int .i64 1)).setCell ⟨x2.heap.size, 3, none⟩ (.int .i64 e.cur))) := Ap.set HA8.out 3 _ rfl rfl; have v10_6 := HA9.out.se.ev.cell 6 (.int .i64 e.tax) rfl; have t10 := HA9.out.tb.cell 4 (.int .i64 s.tax) rfl; have u10 := HA9.out.tb.froz 4; have HA10 : Hid (Ap w s e a n cap x2.heap.size { s with events := (s.events + 1), stamp := e.stamp, status := 1, cur := e.cur, tax := e.tax } (.slice a2 n c2) (((((x4.setCell ⟨x2.heap.size, 8, none⟩ (.int .i64 (s.events + 1))).setCell ⟨x2.heap.size, 10, none⟩ (.int .i64 e.stamp)).setCell ⟨x2.heap.size, 1, none⟩ (.int .i64 1)).setCell ⟨x2.heap.size, 3, none⟩ (.int .i64 e.cur)).setCell ⟨x2.heap.size, 4, none⟩ (.int .i64 e.tax))) := Ap.set HA9.out 4 _ rfl rfl)
            | ((with_reducible refine guard_load 25 ?_); refine wpList_load_st rfl _ rfl HA10.out.tb rfl ?_)
            | ((with_reducible refine guard_store 25 ?_); refine wpList_store_st (s := zeroS) (s2 := { s with events := (s.events + 1), stamp := e.stamp, status := 1, cur := e.cur, tax := e.tax }) (a2 := a2) (n2 := n) (c2 := c2) rfl _ _ rfl HA10.out.res rfl rfl ?_; intro x9 z1 z2 z3 z4))
      refine bodyPost_ret (results_st2 rfl _ _ _ _ rfl rfl z1) rfl ⟨a2, n, c2, rfl, ?_⟩
      exact HA10.out.done z2 z3
    | false =>
      have hR : fineS s e = { s with events := (s.events + 1), stamp := e.stamp, who := e.who, status := 1, cur := e.cur, tax := e.tax } := by simp [fineS, doS, hk, hst, hw]
      rw [hR]
      clear hn hl hR hjj h1 h2 h3 h4 hp hpr hf hk
      go_enter Tryz.func7, Tryz.ntmps7
      go_wp2_with (first
            | ((with_reducible refine guard_load 25 ?_); clear T1; refine wpList_load_st rfl _ rfl HW1.out.1 rfl ?_)
            | (go_at_call 6; refine (scopy_any s a n cap _ HN.out HLW.out hm).mono ?_; rintro _ x2 ⟨v2, rfl, ho2, hb2⟩; obtain ⟨a2, c2, hv2, _, _, hl2, _⟩ := ho2.shape; simp only [HN.out] at hv2; subst hv2; have HX2 : Hid (OwnL x2 W.heap.size (.slice a2 n c2) s.lines ∧ Below W.heap.size W x2) := ⟨ho2, hb2⟩; clear hb2 ho2 hl2)
            | ((with_reducible refine guard_store 25 ?_); clear T2; refine wpList_store_st (s := zeroS) (s2 := s) (a2 := a2) (n2 := n) (c2 := c2) rfl _ _ rfl (StAt.new x2 zeroS (.slice none 0 0)) rfl rfl ?_; intro x3 z1 z2 z3 z4; have HA3 : Hid (Ap w s e a n cap x2.heap.size s (.slice a2 n c2) x3) := Ap.start HW1.out HLW0.out HX2.out.1 HX2.out.2 z1 (z2 _ _ ((Below.refl x2.heap.size x2).alloc (Nat.le_refl _) _) (Nat.le_refl _)); clear z1 z2 z3 z4)
            | ((with_reducible refine guard_load 25 ?_); clear T3; refine wpList_load_st rfl _ rfl HA3.out.se.st rfl ?_)
            | ((with_reducible refine guard_load 28 ?_); refine wpList_load_ev rfl _ rfl HA3.out.se.ev rfl ?_)
            | (go_at_call 15; refine (rjudge_any s e a n cap _ HN.out HA3.out.se.ln hlm).mono ?_; rw [HJ.out]; rintro _ x4 ⟨rfl, hb4⟩; have HA4 : Hid (Ap w s e a n cap x2.heap.size s (.slice a2 n c2) x4) := Ap.keep HA3.out hb4; clear hb4; have s5_8 := HA4.out.se.st.cell 8 (.int .i64 s.events) rfl; have t5 := HA4.out.tb.cell 8 (.int .i64 s.events) rfl; have u5 := HA4.out.tb.froz 8; have HA5 : Hid (Ap w s e a n cap x2.heap.size { s with events := (s.events + 1) } (.slice a2 n c2) (x4.setCell ⟨x2.heap.size, 8, none⟩ (.int .i64 (s.events + 1)))) := Ap.set HA4.out 8 _ rfl rfl; have s6_10 := HA5.out.se.st.cell 10 (.int .i64 s.stamp) rfl; have v6_8 := HA5.out.se.ev.cell 8 (.int .i64 e.stamp) rfl; have t6 := HA5.out.tb.cell 10 (.int .i64 s.stamp) rfl; have u6 := HA5.out.tb.froz 10; have HA6 : Hid (Ap w s e a n cap x2.heap.size { s with events := (s.events + 1), stamp := e.stamp } (.slice a2 n c2) ((x4.setCell ⟨x2.heap.size, 8, none⟩ (.int .i64 (s.events + 1))).setCell ⟨x2.heap.size, 10, none⟩ (.int .i64 e.stamp))) := Ap.set HA5.out 10 _ rfl rfl; have v7_7 := HA6.out.se.ev.cell 7 (.string e.who) rfl; have t7 := HA6.out.tb.cell 11 (.string s.who) rfl; have u7 := HA6.out.tb.froz 11; have HA7 : Hid (Ap w s e a n cap x2.heap.size { s with events := (s.events + 1), stamp := e.stamp, who := e.who } (.slice a2 n c2) (((x4.setCell ⟨x2.heap.size, 8, none⟩ (.int .i64 (s.events + 1))).setCell ⟨x2.heap.size, 10, none⟩ (.int .i64 e.stamp)).setCell ⟨x2.heap.size, 11, none⟩ (.string e.who))) := Ap.set HA6.out 11 _ rfl rfl; have kk := (SE.cs HA7.out.se HK.out).2.2.2.2.2.2.1; have t8 := HA7.out.tb.cell 1 (.int .i64 s.status) rfl; have u8 := HA7.out.tb.froz 1; have HA8 : Hid (Ap w s e a n cap x2.heap.size { s with events := (s.events + 1), stamp := e.stamp, who := e.who, status := 1 } (.slice a2 n c2) ((((x4.setCell ⟨x2.heap.size, 8, none⟩ (.int .i64 (s.events + 1))).setCell ⟨x2.heap.size, 10, none⟩ (.int .i64 e.stamp)).setCell ⟨x2.heap.size, 11, none⟩ (.string e.who)).setCell ⟨x2.heap.size, 1, none⟩ (.int .i64 1))) := Ap.set HA7.out 1 _ rfl rfl; have v9_5 := HA8.out.se.ev.cell 5 (.int .i64 e.cur) rfl; have t9 := HA8.out.tb.cell 3 (.int .i64 s.cur) rfl; have u9 := HA8.out.tb.froz 3; have HA9 : Hid (Ap w s e a n cap x2.heap.size { s with events := (s.events + 1), stamp := e.stamp, who := e.who, status := 1, cur := e.cur } (.slice a2 n c2) (((((x4.setCell ⟨x2.heap.size, 8, none⟩ (.int .i64 (s.events + 1))).setCell ⟨x2.heap.size, 10, none⟩ (.int .i64 e.stamp)).setCell ⟨x2.heap.size, 11, none⟩ (.string e.who)).setCell ⟨x2.heap.size, 1, none⟩ (.int .i64 1)).setCell ⟨x2.heap.size, 3, none⟩ (.int .i64 e.cur))) := Ap.set HA8.out 3 _ rfl rfl; have v10_6 := HA9.out.se.ev.cell 6 (.int .i64 e.tax) rfl; have t10 := HA9.out.tb.cell 4 (.int .i64 s.tax) rfl; have u10 := HA9.out.tb.froz 4; have HA10 : Hid (Ap w s e a n cap x2.heap.size { s with events := (s.events + 1), stamp := e.stamp, who := e.who, status := 1, cur := e.cur, tax := e.tax } (.slice a2 n c2) ((((((x4.setCell ⟨x2.heap.size, 8, none⟩ (.int .i64 (s.events + 1))).setCell ⟨x2.heap.size, 10, none⟩ (.int .i64 e.stamp)).setCell ⟨x2.heap.size, 11, none⟩ (.string e.who)).setCell ⟨x2.heap.size, 1, none⟩ (.int .i64 1)).setCell ⟨x2.heap.size, 3, none⟩ (.int .i64 e.cur)).setCell ⟨x2.heap.size, 4, none⟩ (.int .i64 e.tax))) := Ap.set HA9.out 4 _ rfl rfl)
            | ((with_reducible refine guard_load 25 ?_); refine wpList_load_st rfl _ rfl HA10.out.tb rfl ?_)
            | ((with_reducible refine guard_store 25 ?_); refine wpList_store_st (s := zeroS) (s2 := { s with events := (s.events + 1), stamp := e.stamp, who := e.who, status := 1, cur := e.cur, tax := e.tax }) (a2 := a2) (n2 := n) (c2 := c2) rfl _ _ rfl HA10.out.res rfl rfl ?_; intro x9 z1 z2 z3 z4))
      refine bodyPost_ret (results_st2 rfl _ _ _ _ rfl rfl z1) rfl ⟨a2, n, c2, rfl, ?_⟩
      exact HA10.out.done z2 z3
  · have gst : decide (s.stamp < e.stamp) = false := by simpa using hst
    cases hw : e.who.toList == [] with
    | true =>
      have hR : fineS s e = { s with events := (s.events + 1), status := 1, cur := e.cur, tax := e.tax } := by simp [fineS, doS, hk, hst, hw]
      rw [hR]
      clear hn hl hR hjj h1 h2 h3 h4 hp hpr hf hk
      go_enter Tryz.func7, Tryz.ntmps7
      go_wp2_with (first
            | ((with_reducible refine guard_load 25 ?_); clear T1; refine wpList_load_st rfl _ rfl HW1.out.1 rfl ?_)
            | (go_at_call 6; refine (scopy_any s a n cap _ HN.out HLW.out hm).mono ?_; rintro _ x2 ⟨v2, rfl, ho2, hb2⟩; obtain ⟨a2, c2, hv2, _, _, hl2, _⟩ := ho2.shape; simp only [HN.out] at hv2; subst hv2; have HX2 : Hid (OwnL x2 W.heap.size (.slice a2 n c2) s.lines ∧ Below W.heap.size W x2) := ⟨ho2, hb2⟩; clear hb2 ho2 hl2)
            | ((with_reducible refine guard_store 25 ?_); clear T2; refine wpList_store_st (s := zeroS) (s2 := s) (a2 := a2) (n2 := n) (c2 := c2) rfl _ _ rfl (StAt.new x2 zeroS (.slice none 0 0)) rfl rfl ?_; intro x3 z1 z2 z3 z4; have HA3 : Hid (Ap w s e a n cap x2.heap.size s (.slice a2 n c2) x3) := Ap.start HW1.out HLW0.out HX2.out.1 HX2.out.2 z1 (z2 _ _ ((Below.refl x2.heap.size x2).alloc (Nat.le_refl _) _) (Nat.le_refl _)); clear z1 z2 z3 z4)
            | ((with_reducible refine guard_load 25 ?_); clear T3; refine wpList_load_st rfl _ rfl HA3.out.se.st rfl ?_)
            | ((with_reducible refine guard_load 28 ?_); refine wpList_load_ev rfl _ rfl HA3.out.se.ev rfl ?_)
            | (go_at_call 15; refine (rjudge_any s e a n cap _ HN.out HA3.out.se.ln hlm).mono ?_; rw [HJ.out]; rintro _ x4 ⟨rfl, hb4⟩; have HA4 : Hid (Ap w s e a n cap x2.heap.size s (.slice a2 n c2) x4) := Ap.keep HA3.out hb4; clear hb4; have s5_8 := HA4.out.se.st.cell 8 (.int .i64 s.events) rfl; have t5 := HA4.out.tb.cell 8 (.int .i64 s.events) rfl; have u5 := HA4.out.tb.froz 8; have HA5 : Hid (Ap w s e a n cap x2.heap.size { s with events := (s.events + 1) } (.slice a2 n c2) (x4.setCell ⟨x2.heap.size, 8, none⟩ (.int .i64 (s.events + 1)))) := Ap.set HA4.out 8 _ rfl rfl; have s6_10 := HA5.out.se.st.cell 10 (.int .i64 s.stamp) rfl; have v6_8 := HA5.out.se.ev.cell 8 (.int .i64 e.stamp) rfl; have v7_7 := HA5.out.se.ev.cell 7 (.string e.who) rfl; have kk := (SE.cs HA5.out.se HK.out).2.2.2.2.2.2.1; have t8 := HA5.out.tb.cell 1 (.int .i64 s.status) rfl; have u8 := HA5.out.tb.froz 1; have HA8 : Hid (Ap w s e a n cap x2.heap.size { s with events := (s.events + 1), status := 1 } (.slice a2 n c2) ((x4.setCell ⟨x2.heap.size, 8, none⟩ (.int .i64 (s.events + 1))).setCell ⟨x2.heap.size, 1, none⟩ (.int .i64 1))) := Ap.set HA5.out 1 _ rfl rfl; have v9_5 := HA8.out.se.ev.cell 5 (.int .i64 e.cur) rfl; have t9 := HA8.out.tb.cell 3 (.int .i64 s.cur) rfl; have u9 := HA8.out.tb.froz 3; have HA9 : Hid (Ap w s e a n cap x2.heap.size { s with events := (s.events + 1), status := 1, cur := e.cur } (.slice a2 n c2) (((x4.setCell ⟨x2.heap.size, 8, none⟩ (.int .i64 (s.events + 1))).setCell ⟨x2.heap.size, 1, none⟩ (.int .i64 1)).setCell ⟨x2.heap.size, 3, none⟩ (.int .i64 e.cur))) := Ap.set HA8.out 3 _ rfl rfl; have v10_6 := HA9.out.se.ev.cell 6 (.int .i64 e.tax) rfl; have t10 := HA9.out.tb.cell 4 (.int .i64 s.tax) rfl; have u10 := HA9.out.tb.froz 4; have HA10 : Hid (Ap w s e a n cap x2.heap.size { s with events := (s.events + 1), status := 1, cur := e.cur, tax := e.tax } (.slice a2 n c2) ((((x4.setCell ⟨x2.heap.size, 8, none⟩ (.int .i64 (s.events + 1))).setCell ⟨x2.heap.size, 1, none⟩ (.int .i64 1)).setCell ⟨x2.heap.size, 3, none⟩ (.int .i64 e.cur)).setCell ⟨x2.heap.size, 4, none⟩ (.int .i64 e.tax))) := Ap.set HA9.out 4 _ rfl rfl)
            | ((with_reducible refine guard_load 25 ?_); refine wpList_load_st rfl _ rfl HA10.out.tb rfl ?_)
            | ((with_reducible refine guard_store 25 ?_); refine wpList_store_st (s := zeroS) (s2 := { s with events := (s.events + 1), status := 1, cur := e.cur, tax := e.tax }) (a2 := a2) (n2 := n) (c2 := c2) rfl _ _ rfl HA10.out.res rfl rfl ?_; intro x9 z1 z2 z3 z4))
      refine bodyPost_ret (results_st2 rfl _ _ _ _ rfl rfl z1) rfl ⟨a2, n, c2, rfl, ?_⟩
      exact HA10.out.done z2 z3
    | false =>
      have hR : fineS s e = { s with events := (s.events + 1), who := e.who, status := 1, cur := e.cur, tax := e.tax } := by simp [fineS, doS, hk, hst, hw]
      rw [hR]
      clear hn hl hR hjj h1 h2 h3 h4 hp hpr hf hk
      go_enter Tryz.func7, Tryz.ntmps7
      go_wp2_with (first
            | ((with_reducible refine guard_load 25 ?_); clear T1; refine wpList_load_st rfl _ rfl HW1.out.1 rfl ?_)
            | (go_at_call 6; refine (scopy_any s a n cap _ HN.out HLW.out hm).mono ?_; rintro _ x2 ⟨v2, rfl, ho2, hb2⟩; obtain ⟨a2, c2, hv2, _, _, hl2, _⟩ := ho2.shape; simp only [HN.out] at hv2; subst hv2; have HX2 : Hid (OwnL x2 W.heap.size (.slice a2 n c2) s.lines ∧ Below W.heap.size W x2) := ⟨ho2, hb2⟩; clear hb2 ho2 hl2)
            | ((with_reducible refine guard_store 25 ?_); clear T2; refine wpList_store_st (s := zeroS) (s2 := s) (a2 := a2) (n2 := n) (c2 := c2) rfl _ _ rfl (StAt.new x2 zeroS (.slice none 0 0)) rfl rfl ?_; intro x3 z1 z2 z3 z4; have HA3 : Hid (Ap w s e a n cap x2.heap.size s (.slice a2 n c2) x3) := Ap.start HW1.out HLW0.out HX2.out.1 HX2.out.2 z1 (z2 _ _ ((Below.refl x2.heap.size x2).alloc (Nat.le_refl _) _) (Nat.le_refl _)); clear z1 z2 z3 z4)
            | ((with_reducible refine guard_load 25 ?_); clear T3; refine wpList_load_st rfl _ rfl HA3.out.se.st rfl ?_)
            | ((with_reducible refine guard_load 28 ?_); refine wpList_load_ev rfl _ rfl HA3.out.se.ev rfl ?_)
            | (go_at_call 15; refine (rjudge_any s e a n cap _ HN.out HA3.out.se.ln hlm).mono ?_; rw [HJ.out]; rintro _ x4 ⟨rfl, hb4⟩; have HA4 : Hid (Ap w s e a n cap x2.heap.size s (.slice a2 n c2) x4) := Ap.keep HA3.out hb4; clear hb4; have s5_8 := HA4.out.se.st.cell 8 (.int .i64 s.events) rfl; have t5 := HA4.out.tb.cell 8 (.int .i64 s.events) rfl; have u5 := HA4.out.tb.froz 8; have HA5 : Hid (Ap w s e a n cap x2.heap.size { s with events := (s.events + 1) } (.slice a2 n c2) (x4.setCell ⟨x2.heap.size, 8, none⟩ (.int .i64 (s.events + 1)))) := Ap.set HA4.out 8 _ rfl rfl; have s6_10 := HA5.out.se.st.cell 10 (.int .i64 s.stamp) rfl; have v6_8 := HA5.out.se.ev.cell 8 (.int .i64 e.stamp) rfl; have v7_7 := HA5.out.se.ev.cell 7 (.string e.who) rfl; have t7 := HA5.out.tb.cell 11 (.string s.who) rfl; have u7 := HA5.out.tb.froz 11; have HA7 : Hid (Ap w s e a n cap x2.heap.size { s with events := (s.events + 1), who := e.who } (.slice a2 n c2) ((x4.setCell ⟨x2.heap.size, 8, none⟩ (.int .i64 (s.events + 1))).setCell ⟨x2.heap.size, 11, none⟩ (.string e.who))) := Ap.set HA5.out 11 _ rfl rfl; have kk := (SE.cs HA7.out.se HK.out).2.2.2.2.2.2.1; have t8 := HA7.out.tb.cell 1 (.int .i64 s.status) rfl; have u8 := HA7.out.tb.froz 1; have HA8 : Hid (Ap w s e a n cap x2.heap.size { s with events := (s.events + 1), who := e.who, status := 1 } (.slice a2 n c2) (((x4.setCell ⟨x2.heap.size, 8, none⟩ (.int .i64 (s.events + 1))).setCell ⟨x2.heap.size, 11, none⟩ (.string e.who)).setCell ⟨x2.heap.size, 1, none⟩ (.int .i64 1))) := Ap.set HA7.out 1 _ rfl rfl; have v9_5 := HA8.out.se.ev.cell 5 (.int .i64 e.cur) rfl; have t9 := HA8.out.tb.cell 3 (.int .i64 s.cur) rfl; have u9 := HA8.out.tb.froz 3; have HA9 : Hid (Ap w s e a n cap x2.heap.size { s with events := (s.events + 1), who := e.who, status := 1, cur := e.cur } (.slice a2 n c2) ((((x4.setCell ⟨x2.heap.size, 8, none⟩ (.int .i64 (s.events + 1))).setCell ⟨x2.heap.size, 11, none⟩ (.string e.who)).setCell ⟨x2.heap.size, 1, none⟩ (.int .i64 1)).setCell ⟨x2.heap.size, 3, none⟩ (.int .i64 e.cur))) := Ap.set HA8.out 3 _ rfl rfl; have v10_6 := HA9.out.se.ev.cell 6 (.int .i64 e.tax) rfl; have t10 := HA9.out.tb.cell 4 (.int .i64 s.tax) rfl; have u10 := HA9.out.tb.froz 4; have HA10 : Hid (Ap w s e a n cap x2.heap.size { s with events := (s.events + 1), who := e.who, status := 1, cur := e.cur, tax := e.tax } (.slice a2 n c2) (((((x4.setCell ⟨x2.heap.size, 8, none⟩ (.int .i64 (s.events + 1))).setCell ⟨x2.heap.size, 11, none⟩ (.string e.who)).setCell ⟨x2.heap.size, 1, none⟩ (.int .i64 1)).setCell ⟨x2.heap.size, 3, none⟩ (.int .i64 e.cur)).setCell ⟨x2.heap.size, 4, none⟩ (.int .i64 e.tax))) := Ap.set HA9.out 4 _ rfl rfl)
            | ((with_reducible refine guard_load 25 ?_); refine wpList_load_st rfl _ rfl HA10.out.tb rfl ?_)
            | ((with_reducible refine guard_store 25 ?_); refine wpList_store_st (s := zeroS) (s2 := { s with events := (s.events + 1), who := e.who, status := 1, cur := e.cur, tax := e.tax }) (a2 := a2) (n2 := n) (c2 := c2) rfl _ _ rfl HA10.out.res rfl rfl ?_; intro x9 z1 z2 z3 z4))
      refine bodyPost_ret (results_st2 rfl _ _ _ _ rfl rfl z1) rfl ⟨a2, n, c2, rfl, ?_⟩
      exact HA10.out.done z2 z3
end Go.Proofs.YtldbdhhbmnbmaaaGreat
namespace Go.Proofs.YtldbdhhbmnbmaaaGreat
open Go.ChangeShapes Go.WideShapes Go.ChangeAt Go.RowKit
set_option linter.unusedVariables false
set_option linter.unusedSimpArgs false
set_option maxRecDepth 20000 in
set_option maxHeartbeats 16000000 in
theorem rapply_5 (s : St) (e : Ev) (a : Option Addr) (n cap : Nat) (w : World) (hn : s.lines.length = n) (hl : Lns w a s.lines) (hm : n * 32 ≤ 140737488351232) (hj : judS s e = 0) (hk : e.kind = 5) :
    Calls Tryz.prog 7 #[.agg (stA s (.slice a n cap)), .agg (evA e)] w fun r w' => ApplyPost (nextS s e) (judS s e) w r w' := by
  obtain ⟨W, hW, h1, h2, h3, h4⟩ := t3_new w s e (.slice a n cap)
  have HN : Hid (s.lines.length = n) := hn
  have hlm : n ≤ maxLen := by unfold maxLen; omega
  have HW1 : Hid (StAt W w.heap.size s (.slice a n cap) ∧ EvAt W (w.heap.size + 1) e ∧ StAt W (w.heap.size + 2) zeroS (.slice none 0 0) ∧ Below w.heap.size w W) := ⟨h1, h2, h3, h4⟩
  have HLW0 : Hid (Lns w a s.lines) := hl
  have HLW : Hid (Lns W a s.lines) := hl.keep h4
  obtain ⟨j, hjj⟩ : ∃ j, judS s e = j := ⟨_, rfl⟩
  have HJ : Hid (judS s e = j) := hjj
  have T1 : Hid True := trivial
  have T2 : Hid True := trivial
  have T3 : Hid True := trivial
  have hf : nextS s e = fineS s e := by unfold nextS; rw [if_neg (by rw [hj]; decide), if_pos hj]
  have hp := vl_of (jud_parts (s := s) (e := e) (by rw [hj]; decide)).1
  have he1 := hp.e1
  have he2 := hp.e2
  have hpr := right_of (jud_parts (s := s) (e := e) (by rw [hj]; decide)).2.1
  have pp0 : 0 ≤ e.price := hpr.price0
  have pp1 : e.price ≤ 1000000000000000 := by have := hpr.price1; have h5 : hiP 5 ≤ 1000000000000000 := (by decide); omega
  have pd0 : 0 ≤ s.refunded := hp.f1
  have pd1 : s.refunded ≤ s.paid := hp.f2
  have pd2 : s.paid ≤ 240000000000000 := by have := hp.p2; have := (vld_due (vl_to hp)).2.2.2.2.2.2.2; omega
  rw [hjj] at hj
  subst hj
  rw [hf, hjj]
  have HK : Hid (e.kind = 5) := hk
  by_cases hst : s.stamp < e.stamp
  · have gst : decide (s.stamp < e.stamp) = true := by simpa using hst
    cases hw : e.who.toList == [] with
    | true =>
      have hR : fineS s e = { s with events := (s.events + 1), stamp := e.stamp, status := 5, prior := 0 } := by simp [fineS, doS, hk, hst, hw]
      rw [hR]
      clear hn hl hR hjj h1 h2 h3 h4 hp hpr hf hk
      go_enter Tryz.func7, Tryz.ntmps7
      go_wp2_with (first
            | ((with_reducible refine guard_load 25 ?_); clear T1; refine wpList_load_st rfl _ rfl HW1.out.1 rfl ?_)
            | (go_at_call 6; refine (scopy_any s a n cap _ HN.out HLW.out hm).mono ?_; rintro _ x2 ⟨v2, rfl, ho2, hb2⟩; obtain ⟨a2, c2, hv2, _, _, hl2, _⟩ := ho2.shape; simp only [HN.out] at hv2; subst hv2; have HX2 : Hid (OwnL x2 W.heap.size (.slice a2 n c2) s.lines ∧ Below W.heap.size W x2) := ⟨ho2, hb2⟩; clear hb2 ho2 hl2)
            | ((with_reducible refine guard_store 25 ?_); clear T2; refine wpList_store_st (s := zeroS) (s2 := s) (a2 := a2) (n2 := n) (c2 := c2) rfl _ _ rfl (StAt.new x2 zeroS (.slice none 0 0)) rfl rfl ?_; intro x3 z1 z2 z3 z4; have HA3 : Hid (Ap w s e a n cap x2.heap.size s (.slice a2 n c2) x3) := Ap.start HW1.out HLW0.out HX2.out.1 HX2.out.2 z1 (z2 _ _ ((Below.refl x2.heap.size x2).alloc (Nat.le_refl _) _) (Nat.le_refl _)); clear z1 z2 z3 z4)
            | ((with_reducible refine guard_load 25 ?_); clear T3; refine wpList_load_st rfl _ rfl HA3.out.se.st rfl ?_)
            | ((with_reducible refine guard_load 28 ?_); refine wpList_load_ev rfl _ rfl HA3.out.se.ev rfl ?_)
            | (go_at_call 15; refine (rjudge_any s e a n cap _ HN.out HA3.out.se.ln hlm).mono ?_; rw [HJ.out]; rintro _ x4 ⟨rfl, hb4⟩; have HA4 : Hid (Ap w s e a n cap x2.heap.size s (.slice a2 n c2) x4) := Ap.keep HA3.out hb4; clear hb4; have s5_8 := HA4.out.se.st.cell 8 (.int .i64 s.events) rfl; have t5 := HA4.out.tb.cell 8 (.int .i64 s.events) rfl; have u5 := HA4.out.tb.froz 8; have HA5 : Hid (Ap w s e a n cap x2.heap.size { s with events := (s.events + 1) } (.slice a2 n c2) (x4.setCell ⟨x2.heap.size, 8, none⟩ (.int .i64 (s.events + 1)))) := Ap.set HA4.out 8 _ rfl rfl; have s6_10 := HA5.out.se.st.cell 10 (.int .i64 s.stamp) rfl; have v6_8 := HA5.out.se.ev.cell 8 (.int .i64 e.stamp) rfl; have t6 := HA5.out.tb.cell 10 (.int .i64 s.stamp) rfl; have u6 := HA5.out.tb.froz 10; have HA6 : Hid (Ap w s e a n cap x2.heap.size { s with events := (s.events + 1), stamp := e.stamp } (.slice a2 n c2) ((x4.setCell ⟨x2.heap.size, 8, none⟩ (.int .i64 (s.events + 1))).setCell ⟨x2.heap.size, 10, none⟩ (.int .i64 e.stamp))) := Ap.set HA5.out 10 _ rfl rfl; have v7_7 := HA6.out.se.ev.cell 7 (.string e.who) rfl; have kk := (SE.cs HA6.out.se HK.out).2.2.2.2.2.2.1; have t8 := HA6.out.tb.cell 1 (.int .i64 s.status) rfl; have u8 := HA6.out.tb.froz 1; have HA8 : Hid (Ap w s e a n cap x2.heap.size { s with events := (s.events + 1), stamp := e.stamp, status := 5 } (.slice a2 n c2) (((x4.setCell ⟨x2.heap.size, 8, none⟩ (.int .i64 (s.events + 1))).setCell ⟨x2.heap.size, 10, none⟩ (.int .i64 e.stamp)).setCell ⟨x2.heap.size, 1, none⟩ (.int .i64 5))) := Ap.set HA6.out 1 _ rfl rfl; have t9 := HA8.out.tb.cell 2 (.int .i64 s.prior) rfl; have u9 := HA8.out.tb.froz 2; have HA9 : Hid (Ap w s e a n cap x2.heap.size { s with events := (s.events + 1), stamp := e.stamp, status := 5, prior := 0 } (.slice a2 n c2) ((((x4.setCell ⟨x2.heap.size, 8, none⟩ (.int .i64 (s.events + 1))).setCell ⟨x2.heap.size, 10, none⟩ (.int .i64 e.stamp)).setCell ⟨x2.heap.size, 1, none⟩ (.int .i64 5)).setCell ⟨x2.heap.size, 2, none⟩ (.int .i64 0))) := Ap.set HA8.out 2 _ rfl rfl)
            | ((with_reducible refine guard_load 25 ?_); refine wpList_load_st rfl _ rfl HA9.out.tb rfl ?_)
            | ((with_reducible refine guard_store 25 ?_); refine wpList_store_st (s := zeroS) (s2 := { s with events := (s.events + 1), stamp := e.stamp, status := 5, prior := 0 }) (a2 := a2) (n2 := n) (c2 := c2) rfl _ _ rfl HA9.out.res rfl rfl ?_; intro x9 z1 z2 z3 z4))
      refine bodyPost_ret (results_st2 rfl _ _ _ _ rfl rfl z1) rfl ⟨a2, n, c2, rfl, ?_⟩
      exact HA9.out.done z2 z3
    | false =>
      have hR : fineS s e = { s with events := (s.events + 1), stamp := e.stamp, who := e.who, status := 5, prior := 0 } := by simp [fineS, doS, hk, hst, hw]
      rw [hR]
      clear hn hl hR hjj h1 h2 h3 h4 hp hpr hf hk
      go_enter Tryz.func7, Tryz.ntmps7
      go_wp2_with (first
            | ((with_reducible refine guard_load 25 ?_); clear T1; refine wpList_load_st rfl _ rfl HW1.out.1 rfl ?_)
            | (go_at_call 6; refine (scopy_any s a n cap _ HN.out HLW.out hm).mono ?_; rintro _ x2 ⟨v2, rfl, ho2, hb2⟩; obtain ⟨a2, c2, hv2, _, _, hl2, _⟩ := ho2.shape; simp only [HN.out] at hv2; subst hv2; have HX2 : Hid (OwnL x2 W.heap.size (.slice a2 n c2) s.lines ∧ Below W.heap.size W x2) := ⟨ho2, hb2⟩; clear hb2 ho2 hl2)
            | ((with_reducible refine guard_store 25 ?_); clear T2; refine wpList_store_st (s := zeroS) (s2 := s) (a2 := a2) (n2 := n) (c2 := c2) rfl _ _ rfl (StAt.new x2 zeroS (.slice none 0 0)) rfl rfl ?_; intro x3 z1 z2 z3 z4; have HA3 : Hid (Ap w s e a n cap x2.heap.size s (.slice a2 n c2) x3) := Ap.start HW1.out HLW0.out HX2.out.1 HX2.out.2 z1 (z2 _ _ ((Below.refl x2.heap.size x2).alloc (Nat.le_refl _) _) (Nat.le_refl _)); clear z1 z2 z3 z4)
            | ((with_reducible refine guard_load 25 ?_); clear T3; refine wpList_load_st rfl _ rfl HA3.out.se.st rfl ?_)
            | ((with_reducible refine guard_load 28 ?_); refine wpList_load_ev rfl _ rfl HA3.out.se.ev rfl ?_)
            | (go_at_call 15; refine (rjudge_any s e a n cap _ HN.out HA3.out.se.ln hlm).mono ?_; rw [HJ.out]; rintro _ x4 ⟨rfl, hb4⟩; have HA4 : Hid (Ap w s e a n cap x2.heap.size s (.slice a2 n c2) x4) := Ap.keep HA3.out hb4; clear hb4; have s5_8 := HA4.out.se.st.cell 8 (.int .i64 s.events) rfl; have t5 := HA4.out.tb.cell 8 (.int .i64 s.events) rfl; have u5 := HA4.out.tb.froz 8; have HA5 : Hid (Ap w s e a n cap x2.heap.size { s with events := (s.events + 1) } (.slice a2 n c2) (x4.setCell ⟨x2.heap.size, 8, none⟩ (.int .i64 (s.events + 1)))) := Ap.set HA4.out 8 _ rfl rfl; have s6_10 := HA5.out.se.st.cell 10 (.int .i64 s.stamp) rfl; have v6_8 := HA5.out.se.ev.cell 8 (.int .i64 e.stamp) rfl; have t6 := HA5.out.tb.cell 10 (.int .i64 s.stamp) rfl; have u6 := HA5.out.tb.froz 10; have HA6 : Hid (Ap w s e a n cap x2.heap.size { s with events := (s.events + 1), stamp := e.stamp } (.slice a2 n c2) ((x4.setCell ⟨x2.heap.size, 8, none⟩ (.int .i64 (s.events + 1))).setCell ⟨x2.heap.size, 10, none⟩ (.int .i64 e.stamp))) := Ap.set HA5.out 10 _ rfl rfl; have v7_7 := HA6.out.se.ev.cell 7 (.string e.who) rfl; have t7 := HA6.out.tb.cell 11 (.string s.who) rfl; have u7 := HA6.out.tb.froz 11; have HA7 : Hid (Ap w s e a n cap x2.heap.size { s with events := (s.events + 1), stamp := e.stamp, who := e.who } (.slice a2 n c2) (((x4.setCell ⟨x2.heap.size, 8, none⟩ (.int .i64 (s.events + 1))).setCell ⟨x2.heap.size, 10, none⟩ (.int .i64 e.stamp)).setCell ⟨x2.heap.size, 11, none⟩ (.string e.who))) := Ap.set HA6.out 11 _ rfl rfl; have kk := (SE.cs HA7.out.se HK.out).2.2.2.2.2.2.1; have t8 := HA7.out.tb.cell 1 (.int .i64 s.status) rfl; have u8 := HA7.out.tb.froz 1; have HA8 : Hid (Ap w s e a n cap x2.heap.size { s with events := (s.events + 1), stamp := e.stamp, who := e.who, status := 5 } (.slice a2 n c2) ((((x4.setCell ⟨x2.heap.size, 8, none⟩ (.int .i64 (s.events + 1))).setCell ⟨x2.heap.size, 10, none⟩ (.int .i64 e.stamp)).setCell ⟨x2.heap.size, 11, none⟩ (.string e.who)).setCell ⟨x2.heap.size, 1, none⟩ (.int .i64 5))) := Ap.set HA7.out 1 _ rfl rfl; have t9 := HA8.out.tb.cell 2 (.int .i64 s.prior) rfl; have u9 := HA8.out.tb.froz 2; have HA9 : Hid (Ap w s e a n cap x2.heap.size { s with events := (s.events + 1), stamp := e.stamp, who := e.who, status := 5, prior := 0 } (.slice a2 n c2) (((((x4.setCell ⟨x2.heap.size, 8, none⟩ (.int .i64 (s.events + 1))).setCell ⟨x2.heap.size, 10, none⟩ (.int .i64 e.stamp)).setCell ⟨x2.heap.size, 11, none⟩ (.string e.who)).setCell ⟨x2.heap.size, 1, none⟩ (.int .i64 5)).setCell ⟨x2.heap.size, 2, none⟩ (.int .i64 0))) := Ap.set HA8.out 2 _ rfl rfl)
            | ((with_reducible refine guard_load 25 ?_); refine wpList_load_st rfl _ rfl HA9.out.tb rfl ?_)
            | ((with_reducible refine guard_store 25 ?_); refine wpList_store_st (s := zeroS) (s2 := { s with events := (s.events + 1), stamp := e.stamp, who := e.who, status := 5, prior := 0 }) (a2 := a2) (n2 := n) (c2 := c2) rfl _ _ rfl HA9.out.res rfl rfl ?_; intro x9 z1 z2 z3 z4))
      refine bodyPost_ret (results_st2 rfl _ _ _ _ rfl rfl z1) rfl ⟨a2, n, c2, rfl, ?_⟩
      exact HA9.out.done z2 z3
  · have gst : decide (s.stamp < e.stamp) = false := by simpa using hst
    cases hw : e.who.toList == [] with
    | true =>
      have hR : fineS s e = { s with events := (s.events + 1), status := 5, prior := 0 } := by simp [fineS, doS, hk, hst, hw]
      rw [hR]
      clear hn hl hR hjj h1 h2 h3 h4 hp hpr hf hk
      go_enter Tryz.func7, Tryz.ntmps7
      go_wp2_with (first
            | ((with_reducible refine guard_load 25 ?_); clear T1; refine wpList_load_st rfl _ rfl HW1.out.1 rfl ?_)
            | (go_at_call 6; refine (scopy_any s a n cap _ HN.out HLW.out hm).mono ?_; rintro _ x2 ⟨v2, rfl, ho2, hb2⟩; obtain ⟨a2, c2, hv2, _, _, hl2, _⟩ := ho2.shape; simp only [HN.out] at hv2; subst hv2; have HX2 : Hid (OwnL x2 W.heap.size (.slice a2 n c2) s.lines ∧ Below W.heap.size W x2) := ⟨ho2, hb2⟩; clear hb2 ho2 hl2)
            | ((with_reducible refine guard_store 25 ?_); clear T2; refine wpList_store_st (s := zeroS) (s2 := s) (a2 := a2) (n2 := n) (c2 := c2) rfl _ _ rfl (StAt.new x2 zeroS (.slice none 0 0)) rfl rfl ?_; intro x3 z1 z2 z3 z4; have HA3 : Hid (Ap w s e a n cap x2.heap.size s (.slice a2 n c2) x3) := Ap.start HW1.out HLW0.out HX2.out.1 HX2.out.2 z1 (z2 _ _ ((Below.refl x2.heap.size x2).alloc (Nat.le_refl _) _) (Nat.le_refl _)); clear z1 z2 z3 z4)
            | ((with_reducible refine guard_load 25 ?_); clear T3; refine wpList_load_st rfl _ rfl HA3.out.se.st rfl ?_)
            | ((with_reducible refine guard_load 28 ?_); refine wpList_load_ev rfl _ rfl HA3.out.se.ev rfl ?_)
            | (go_at_call 15; refine (rjudge_any s e a n cap _ HN.out HA3.out.se.ln hlm).mono ?_; rw [HJ.out]; rintro _ x4 ⟨rfl, hb4⟩; have HA4 : Hid (Ap w s e a n cap x2.heap.size s (.slice a2 n c2) x4) := Ap.keep HA3.out hb4; clear hb4; have s5_8 := HA4.out.se.st.cell 8 (.int .i64 s.events) rfl; have t5 := HA4.out.tb.cell 8 (.int .i64 s.events) rfl; have u5 := HA4.out.tb.froz 8; have HA5 : Hid (Ap w s e a n cap x2.heap.size { s with events := (s.events + 1) } (.slice a2 n c2) (x4.setCell ⟨x2.heap.size, 8, none⟩ (.int .i64 (s.events + 1)))) := Ap.set HA4.out 8 _ rfl rfl; have s6_10 := HA5.out.se.st.cell 10 (.int .i64 s.stamp) rfl; have v6_8 := HA5.out.se.ev.cell 8 (.int .i64 e.stamp) rfl; have v7_7 := HA5.out.se.ev.cell 7 (.string e.who) rfl; have kk := (SE.cs HA5.out.se HK.out).2.2.2.2.2.2.1; have t8 := HA5.out.tb.cell 1 (.int .i64 s.status) rfl; have u8 := HA5.out.tb.froz 1; have HA8 : Hid (Ap w s e a n cap x2.heap.size { s with events := (s.events + 1), status := 5 } (.slice a2 n c2) ((x4.setCell ⟨x2.heap.size, 8, none⟩ (.int .i64 (s.events + 1))).setCell ⟨x2.heap.size, 1, none⟩ (.int .i64 5))) := Ap.set HA5.out 1 _ rfl rfl; have t9 := HA8.out.tb.cell 2 (.int .i64 s.prior) rfl; have u9 := HA8.out.tb.froz 2; have HA9 : Hid (Ap w s e a n cap x2.heap.size { s with events := (s.events + 1), status := 5, prior := 0 } (.slice a2 n c2) (((x4.setCell ⟨x2.heap.size, 8, none⟩ (.int .i64 (s.events + 1))).setCell ⟨x2.heap.size, 1, none⟩ (.int .i64 5)).setCell ⟨x2.heap.size, 2, none⟩ (.int .i64 0))) := Ap.set HA8.out 2 _ rfl rfl)
            | ((with_reducible refine guard_load 25 ?_); refine wpList_load_st rfl _ rfl HA9.out.tb rfl ?_)
            | ((with_reducible refine guard_store 25 ?_); refine wpList_store_st (s := zeroS) (s2 := { s with events := (s.events + 1), status := 5, prior := 0 }) (a2 := a2) (n2 := n) (c2 := c2) rfl _ _ rfl HA9.out.res rfl rfl ?_; intro x9 z1 z2 z3 z4))
      refine bodyPost_ret (results_st2 rfl _ _ _ _ rfl rfl z1) rfl ⟨a2, n, c2, rfl, ?_⟩
      exact HA9.out.done z2 z3
    | false =>
      have hR : fineS s e = { s with events := (s.events + 1), who := e.who, status := 5, prior := 0 } := by simp [fineS, doS, hk, hst, hw]
      rw [hR]
      clear hn hl hR hjj h1 h2 h3 h4 hp hpr hf hk
      go_enter Tryz.func7, Tryz.ntmps7
      go_wp2_with (first
            | ((with_reducible refine guard_load 25 ?_); clear T1; refine wpList_load_st rfl _ rfl HW1.out.1 rfl ?_)
            | (go_at_call 6; refine (scopy_any s a n cap _ HN.out HLW.out hm).mono ?_; rintro _ x2 ⟨v2, rfl, ho2, hb2⟩; obtain ⟨a2, c2, hv2, _, _, hl2, _⟩ := ho2.shape; simp only [HN.out] at hv2; subst hv2; have HX2 : Hid (OwnL x2 W.heap.size (.slice a2 n c2) s.lines ∧ Below W.heap.size W x2) := ⟨ho2, hb2⟩; clear hb2 ho2 hl2)
            | ((with_reducible refine guard_store 25 ?_); clear T2; refine wpList_store_st (s := zeroS) (s2 := s) (a2 := a2) (n2 := n) (c2 := c2) rfl _ _ rfl (StAt.new x2 zeroS (.slice none 0 0)) rfl rfl ?_; intro x3 z1 z2 z3 z4; have HA3 : Hid (Ap w s e a n cap x2.heap.size s (.slice a2 n c2) x3) := Ap.start HW1.out HLW0.out HX2.out.1 HX2.out.2 z1 (z2 _ _ ((Below.refl x2.heap.size x2).alloc (Nat.le_refl _) _) (Nat.le_refl _)); clear z1 z2 z3 z4)
            | ((with_reducible refine guard_load 25 ?_); clear T3; refine wpList_load_st rfl _ rfl HA3.out.se.st rfl ?_)
            | ((with_reducible refine guard_load 28 ?_); refine wpList_load_ev rfl _ rfl HA3.out.se.ev rfl ?_)
            | (go_at_call 15; refine (rjudge_any s e a n cap _ HN.out HA3.out.se.ln hlm).mono ?_; rw [HJ.out]; rintro _ x4 ⟨rfl, hb4⟩; have HA4 : Hid (Ap w s e a n cap x2.heap.size s (.slice a2 n c2) x4) := Ap.keep HA3.out hb4; clear hb4; have s5_8 := HA4.out.se.st.cell 8 (.int .i64 s.events) rfl; have t5 := HA4.out.tb.cell 8 (.int .i64 s.events) rfl; have u5 := HA4.out.tb.froz 8; have HA5 : Hid (Ap w s e a n cap x2.heap.size { s with events := (s.events + 1) } (.slice a2 n c2) (x4.setCell ⟨x2.heap.size, 8, none⟩ (.int .i64 (s.events + 1)))) := Ap.set HA4.out 8 _ rfl rfl; have s6_10 := HA5.out.se.st.cell 10 (.int .i64 s.stamp) rfl; have v6_8 := HA5.out.se.ev.cell 8 (.int .i64 e.stamp) rfl; have v7_7 := HA5.out.se.ev.cell 7 (.string e.who) rfl; have t7 := HA5.out.tb.cell 11 (.string s.who) rfl; have u7 := HA5.out.tb.froz 11; have HA7 : Hid (Ap w s e a n cap x2.heap.size { s with events := (s.events + 1), who := e.who } (.slice a2 n c2) ((x4.setCell ⟨x2.heap.size, 8, none⟩ (.int .i64 (s.events + 1))).setCell ⟨x2.heap.size, 11, none⟩ (.string e.who))) := Ap.set HA5.out 11 _ rfl rfl; have kk := (SE.cs HA7.out.se HK.out).2.2.2.2.2.2.1; have t8 := HA7.out.tb.cell 1 (.int .i64 s.status) rfl; have u8 := HA7.out.tb.froz 1; have HA8 : Hid (Ap w s e a n cap x2.heap.size { s with events := (s.events + 1), who := e.who, status := 5 } (.slice a2 n c2) (((x4.setCell ⟨x2.heap.size, 8, none⟩ (.int .i64 (s.events + 1))).setCell ⟨x2.heap.size, 11, none⟩ (.string e.who)).setCell ⟨x2.heap.size, 1, none⟩ (.int .i64 5))) := Ap.set HA7.out 1 _ rfl rfl; have t9 := HA8.out.tb.cell 2 (.int .i64 s.prior) rfl; have u9 := HA8.out.tb.froz 2; have HA9 : Hid (Ap w s e a n cap x2.heap.size { s with events := (s.events + 1), who := e.who, status := 5, prior := 0 } (.slice a2 n c2) ((((x4.setCell ⟨x2.heap.size, 8, none⟩ (.int .i64 (s.events + 1))).setCell ⟨x2.heap.size, 11, none⟩ (.string e.who)).setCell ⟨x2.heap.size, 1, none⟩ (.int .i64 5)).setCell ⟨x2.heap.size, 2, none⟩ (.int .i64 0))) := Ap.set HA8.out 2 _ rfl rfl)
            | ((with_reducible refine guard_load 25 ?_); refine wpList_load_st rfl _ rfl HA9.out.tb rfl ?_)
            | ((with_reducible refine guard_store 25 ?_); refine wpList_store_st (s := zeroS) (s2 := { s with events := (s.events + 1), who := e.who, status := 5, prior := 0 }) (a2 := a2) (n2 := n) (c2 := c2) rfl _ _ rfl HA9.out.res rfl rfl ?_; intro x9 z1 z2 z3 z4))
      refine bodyPost_ret (results_st2 rfl _ _ _ _ rfl rfl z1) rfl ⟨a2, n, c2, rfl, ?_⟩
      exact HA9.out.done z2 z3
end Go.Proofs.YtldbdhhbmnbmaaaGreat
namespace Go.Proofs.YtldbdhhbmnbmaaaGreat
open Go.ChangeShapes Go.WideShapes Go.ChangeAt Go.RowKit
set_option linter.unusedVariables false
set_option linter.unusedSimpArgs false
set_option maxRecDepth 20000 in
set_option maxHeartbeats 16000000 in
theorem rapply_7 (s : St) (e : Ev) (a : Option Addr) (n cap : Nat) (w : World) (hn : s.lines.length = n) (hl : Lns w a s.lines) (hm : n * 32 ≤ 140737488351232) (hj : judS s e = 0) (hk : e.kind = 7) :
    Calls Tryz.prog 7 #[.agg (stA s (.slice a n cap)), .agg (evA e)] w fun r w' => ApplyPost (nextS s e) (judS s e) w r w' := by
  obtain ⟨W, hW, h1, h2, h3, h4⟩ := t3_new w s e (.slice a n cap)
  have HN : Hid (s.lines.length = n) := hn
  have hlm : n ≤ maxLen := by unfold maxLen; omega
  have HW1 : Hid (StAt W w.heap.size s (.slice a n cap) ∧ EvAt W (w.heap.size + 1) e ∧ StAt W (w.heap.size + 2) zeroS (.slice none 0 0) ∧ Below w.heap.size w W) := ⟨h1, h2, h3, h4⟩
  have HLW0 : Hid (Lns w a s.lines) := hl
  have HLW : Hid (Lns W a s.lines) := hl.keep h4
  obtain ⟨j, hjj⟩ : ∃ j, judS s e = j := ⟨_, rfl⟩
  have HJ : Hid (judS s e = j) := hjj
  have T1 : Hid True := trivial
  have T2 : Hid True := trivial
  have T3 : Hid True := trivial
  have hf : nextS s e = fineS s e := by unfold nextS; rw [if_neg (by rw [hj]; decide), if_pos hj]
  have hp := vl_of (jud_parts (s := s) (e := e) (by rw [hj]; decide)).1
  have he1 := hp.e1
  have he2 := hp.e2
  have hpr := right_of (jud_parts (s := s) (e := e) (by rw [hj]; decide)).2.1
  have pp0 : 0 ≤ e.price := hpr.price0
  have pp1 : e.price ≤ 1000000000000000 := by have := hpr.price1; have h5 : hiP 5 ≤ 1000000000000000 := (by decide); omega
  have pd0 : 0 ≤ s.refunded := hp.f1
  have pd1 : s.refunded ≤ s.paid := hp.f2
  have pd2 : s.paid ≤ 240000000000000 := by have := hp.p2; have := (vld_due (vl_to hp)).2.2.2.2.2.2.2; omega
  rw [hjj] at hj
  subst hj
  rw [hf, hjj]
  have HK : Hid (e.kind = 7) := hk
  by_cases hst : s.stamp < e.stamp
  · have gst : decide (s.stamp < e.stamp) = true := by simpa using hst
    cases hw : e.who.toList == [] with
    | true =>
      have hR : fineS s e = { s with events := (s.events + 1), stamp := e.stamp, refunded := (s.refunded + e.price) } := by simp [fineS, doS, hk, hst, hw]
      rw [hR]
      clear hn hl hR hjj h1 h2 h3 h4 hp hpr hf hk
      go_enter Tryz.func7, Tryz.ntmps7
      go_wp2_with (first
            | ((with_reducible refine guard_load 25 ?_); clear T1; refine wpList_load_st rfl _ rfl HW1.out.1 rfl ?_)
            | (go_at_call 6; refine (scopy_any s a n cap _ HN.out HLW.out hm).mono ?_; rintro _ x2 ⟨v2, rfl, ho2, hb2⟩; obtain ⟨a2, c2, hv2, _, _, hl2, _⟩ := ho2.shape; simp only [HN.out] at hv2; subst hv2; have HX2 : Hid (OwnL x2 W.heap.size (.slice a2 n c2) s.lines ∧ Below W.heap.size W x2) := ⟨ho2, hb2⟩; clear hb2 ho2 hl2)
            | ((with_reducible refine guard_store 25 ?_); clear T2; refine wpList_store_st (s := zeroS) (s2 := s) (a2 := a2) (n2 := n) (c2 := c2) rfl _ _ rfl (StAt.new x2 zeroS (.slice none 0 0)) rfl rfl ?_; intro x3 z1 z2 z3 z4; have HA3 : Hid (Ap w s e a n cap x2.heap.size s (.slice a2 n c2) x3) := Ap.start HW1.out HLW0.out HX2.out.1 HX2.out.2 z1 (z2 _ _ ((Below.refl x2.heap.size x2).alloc (Nat.le_refl _) _) (Nat.le_refl _)); clear z1 z2 z3 z4)
            | ((with_reducible refine guard_load 25 ?_); clear T3; refine wpList_load_st rfl _ rfl HA3.out.se.st rfl ?_)
            | ((with_reducible refine guard_load 28 ?_); refine wpList_load_ev rfl _ rfl HA3.out.se.ev rfl ?_)
            | (go_at_call 15; refine (rjudge_any s e a n cap _ HN.out HA3.out.se.ln hlm).mono ?_; rw [HJ.out]; rintro _ x4 ⟨rfl, hb4⟩; have HA4 : Hid (Ap w s e a n cap x2.heap.size s (.slice a2 n c2) x4) := Ap.keep HA3.out hb4; clear hb4; have s5_8 := HA4.out.se.st.cell 8 (.int .i64 s.events) rfl; have t5 := HA4.out.tb.cell 8 (.int .i64 s.events) rfl; have u5 := HA4.out.tb.froz 8; have HA5 : Hid (Ap w s e a n cap x2.heap.size { s with events := (s.events + 1) } (.slice a2 n c2) (x4.setCell ⟨x2.heap.size, 8, none⟩ (.int .i64 (s.events + 1)))) := Ap.set HA4.out 8 _ rfl rfl; have s6_10 := HA5.out.se.st.cell 10 (.int .i64 s.stamp) rfl; have v6_8 := HA5.out.se.ev.cell 8 (.int .i64 e.stamp) rfl; have t6 := HA5.out.tb.cell 10 (.int .i64 s.stamp) rfl; have u6 := HA5.out.tb.froz 10; have HA6 : Hid (Ap w s e a n cap x2.heap.size { s with events := (s.events + 1), stamp := e.stamp } (.slice a2 n c2) ((x4.setCell ⟨x2.heap.size, 8, none⟩ (.int .i64 (s.events + 1))).setCell ⟨x2.heap.size, 10, none⟩ (.int .i64 e.stamp))) := Ap.set HA5.out 10 _ rfl rfl; have v7_7 := HA6.out.se.ev.cell 7 (.string e.who) rfl; have kk := (SE.cs HA6.out.se HK.out).2.2.2.2.2.2.1; have s8_7 := HA6.out.se.st.cell 7 (.int .i64 s.refunded) rfl; have v8_4 := HA6.out.se.ev.cell 4 (.int .i64 e.price) rfl; have t8 := HA6.out.tb.cell 7 (.int .i64 s.refunded) rfl; have u8 := HA6.out.tb.froz 7; have HA8 : Hid (Ap w s e a n cap x2.heap.size { s with events := (s.events + 1), stamp := e.stamp, refunded := (s.refunded + e.price) } (.slice a2 n c2) (((x4.setCell ⟨x2.heap.size, 8, none⟩ (.int .i64 (s.events + 1))).setCell ⟨x2.heap.size, 10, none⟩ (.int .i64 e.stamp)).setCell ⟨x2.heap.size, 7, none⟩ (.int .i64 (s.refunded + e.price)))) := Ap.set HA6.out 7 _ rfl rfl)
            | ((with_reducible refine guard_load 25 ?_); refine wpList_load_st rfl _ rfl HA8.out.tb rfl ?_)
            | ((with_reducible refine guard_store 25 ?_); refine wpList_store_st (s := zeroS) (s2 := { s with events := (s.events + 1), stamp := e.stamp, refunded := (s.refunded + e.price) }) (a2 := a2) (n2 := n) (c2 := c2) rfl _ _ rfl HA8.out.res rfl rfl ?_; intro x9 z1 z2 z3 z4))
      refine bodyPost_ret (results_st2 rfl _ _ _ _ rfl rfl z1) rfl ⟨a2, n, c2, rfl, ?_⟩
      exact HA8.out.done z2 z3
    | false =>
      have hR : fineS s e = { s with events := (s.events + 1), stamp := e.stamp, who := e.who, refunded := (s.refunded + e.price) } := by simp [fineS, doS, hk, hst, hw]
      rw [hR]
      clear hn hl hR hjj h1 h2 h3 h4 hp hpr hf hk
      go_enter Tryz.func7, Tryz.ntmps7
      go_wp2_with (first
            | ((with_reducible refine guard_load 25 ?_); clear T1; refine wpList_load_st rfl _ rfl HW1.out.1 rfl ?_)
            | (go_at_call 6; refine (scopy_any s a n cap _ HN.out HLW.out hm).mono ?_; rintro _ x2 ⟨v2, rfl, ho2, hb2⟩; obtain ⟨a2, c2, hv2, _, _, hl2, _⟩ := ho2.shape; simp only [HN.out] at hv2; subst hv2; have HX2 : Hid (OwnL x2 W.heap.size (.slice a2 n c2) s.lines ∧ Below W.heap.size W x2) := ⟨ho2, hb2⟩; clear hb2 ho2 hl2)
            | ((with_reducible refine guard_store 25 ?_); clear T2; refine wpList_store_st (s := zeroS) (s2 := s) (a2 := a2) (n2 := n) (c2 := c2) rfl _ _ rfl (StAt.new x2 zeroS (.slice none 0 0)) rfl rfl ?_; intro x3 z1 z2 z3 z4; have HA3 : Hid (Ap w s e a n cap x2.heap.size s (.slice a2 n c2) x3) := Ap.start HW1.out HLW0.out HX2.out.1 HX2.out.2 z1 (z2 _ _ ((Below.refl x2.heap.size x2).alloc (Nat.le_refl _) _) (Nat.le_refl _)); clear z1 z2 z3 z4)
            | ((with_reducible refine guard_load 25 ?_); clear T3; refine wpList_load_st rfl _ rfl HA3.out.se.st rfl ?_)
            | ((with_reducible refine guard_load 28 ?_); refine wpList_load_ev rfl _ rfl HA3.out.se.ev rfl ?_)
            | (go_at_call 15; refine (rjudge_any s e a n cap _ HN.out HA3.out.se.ln hlm).mono ?_; rw [HJ.out]; rintro _ x4 ⟨rfl, hb4⟩; have HA4 : Hid (Ap w s e a n cap x2.heap.size s (.slice a2 n c2) x4) := Ap.keep HA3.out hb4; clear hb4; have s5_8 := HA4.out.se.st.cell 8 (.int .i64 s.events) rfl; have t5 := HA4.out.tb.cell 8 (.int .i64 s.events) rfl; have u5 := HA4.out.tb.froz 8; have HA5 : Hid (Ap w s e a n cap x2.heap.size { s with events := (s.events + 1) } (.slice a2 n c2) (x4.setCell ⟨x2.heap.size, 8, none⟩ (.int .i64 (s.events + 1)))) := Ap.set HA4.out 8 _ rfl rfl; have s6_10 := HA5.out.se.st.cell 10 (.int .i64 s.stamp) rfl; have v6_8 := HA5.out.se.ev.cell 8 (.int .i64 e.stamp) rfl; have t6 := HA5.out.tb.cell 10 (.int .i64 s.stamp) rfl; have u6 := HA5.out.tb.froz 10; have HA6 : Hid (Ap w s e a n cap x2.heap.size { s with events := (s.events + 1), stamp := e.stamp } (.slice a2 n c2) ((x4.setCell ⟨x2.heap.size, 8, none⟩ (.int .i64 (s.events + 1))).setCell ⟨x2.heap.size, 10, none⟩ (.int .i64 e.stamp))) := Ap.set HA5.out 10 _ rfl rfl; have v7_7 := HA6.out.se.ev.cell 7 (.string e.who) rfl; have t7 := HA6.out.tb.cell 11 (.string s.who) rfl; have u7 := HA6.out.tb.froz 11; have HA7 : Hid (Ap w s e a n cap x2.heap.size { s with events := (s.events + 1), stamp := e.stamp, who := e.who } (.slice a2 n c2) (((x4.setCell ⟨x2.heap.size, 8, none⟩ (.int .i64 (s.events + 1))).setCell ⟨x2.heap.size, 10, none⟩ (.int .i64 e.stamp)).setCell ⟨x2.heap.size, 11, none⟩ (.string e.who))) := Ap.set HA6.out 11 _ rfl rfl; have kk := (SE.cs HA7.out.se HK.out).2.2.2.2.2.2.1; have s8_7 := HA7.out.se.st.cell 7 (.int .i64 s.refunded) rfl; have v8_4 := HA7.out.se.ev.cell 4 (.int .i64 e.price) rfl; have t8 := HA7.out.tb.cell 7 (.int .i64 s.refunded) rfl; have u8 := HA7.out.tb.froz 7; have HA8 : Hid (Ap w s e a n cap x2.heap.size { s with events := (s.events + 1), stamp := e.stamp, who := e.who, refunded := (s.refunded + e.price) } (.slice a2 n c2) ((((x4.setCell ⟨x2.heap.size, 8, none⟩ (.int .i64 (s.events + 1))).setCell ⟨x2.heap.size, 10, none⟩ (.int .i64 e.stamp)).setCell ⟨x2.heap.size, 11, none⟩ (.string e.who)).setCell ⟨x2.heap.size, 7, none⟩ (.int .i64 (s.refunded + e.price)))) := Ap.set HA7.out 7 _ rfl rfl)
            | ((with_reducible refine guard_load 25 ?_); refine wpList_load_st rfl _ rfl HA8.out.tb rfl ?_)
            | ((with_reducible refine guard_store 25 ?_); refine wpList_store_st (s := zeroS) (s2 := { s with events := (s.events + 1), stamp := e.stamp, who := e.who, refunded := (s.refunded + e.price) }) (a2 := a2) (n2 := n) (c2 := c2) rfl _ _ rfl HA8.out.res rfl rfl ?_; intro x9 z1 z2 z3 z4))
      refine bodyPost_ret (results_st2 rfl _ _ _ _ rfl rfl z1) rfl ⟨a2, n, c2, rfl, ?_⟩
      exact HA8.out.done z2 z3
  · have gst : decide (s.stamp < e.stamp) = false := by simpa using hst
    cases hw : e.who.toList == [] with
    | true =>
      have hR : fineS s e = { s with events := (s.events + 1), refunded := (s.refunded + e.price) } := by simp [fineS, doS, hk, hst, hw]
      rw [hR]
      clear hn hl hR hjj h1 h2 h3 h4 hp hpr hf hk
      go_enter Tryz.func7, Tryz.ntmps7
      go_wp2_with (first
            | ((with_reducible refine guard_load 25 ?_); clear T1; refine wpList_load_st rfl _ rfl HW1.out.1 rfl ?_)
            | (go_at_call 6; refine (scopy_any s a n cap _ HN.out HLW.out hm).mono ?_; rintro _ x2 ⟨v2, rfl, ho2, hb2⟩; obtain ⟨a2, c2, hv2, _, _, hl2, _⟩ := ho2.shape; simp only [HN.out] at hv2; subst hv2; have HX2 : Hid (OwnL x2 W.heap.size (.slice a2 n c2) s.lines ∧ Below W.heap.size W x2) := ⟨ho2, hb2⟩; clear hb2 ho2 hl2)
            | ((with_reducible refine guard_store 25 ?_); clear T2; refine wpList_store_st (s := zeroS) (s2 := s) (a2 := a2) (n2 := n) (c2 := c2) rfl _ _ rfl (StAt.new x2 zeroS (.slice none 0 0)) rfl rfl ?_; intro x3 z1 z2 z3 z4; have HA3 : Hid (Ap w s e a n cap x2.heap.size s (.slice a2 n c2) x3) := Ap.start HW1.out HLW0.out HX2.out.1 HX2.out.2 z1 (z2 _ _ ((Below.refl x2.heap.size x2).alloc (Nat.le_refl _) _) (Nat.le_refl _)); clear z1 z2 z3 z4)
            | ((with_reducible refine guard_load 25 ?_); clear T3; refine wpList_load_st rfl _ rfl HA3.out.se.st rfl ?_)
            | ((with_reducible refine guard_load 28 ?_); refine wpList_load_ev rfl _ rfl HA3.out.se.ev rfl ?_)
            | (go_at_call 15; refine (rjudge_any s e a n cap _ HN.out HA3.out.se.ln hlm).mono ?_; rw [HJ.out]; rintro _ x4 ⟨rfl, hb4⟩; have HA4 : Hid (Ap w s e a n cap x2.heap.size s (.slice a2 n c2) x4) := Ap.keep HA3.out hb4; clear hb4; have s5_8 := HA4.out.se.st.cell 8 (.int .i64 s.events) rfl; have t5 := HA4.out.tb.cell 8 (.int .i64 s.events) rfl; have u5 := HA4.out.tb.froz 8; have HA5 : Hid (Ap w s e a n cap x2.heap.size { s with events := (s.events + 1) } (.slice a2 n c2) (x4.setCell ⟨x2.heap.size, 8, none⟩ (.int .i64 (s.events + 1)))) := Ap.set HA4.out 8 _ rfl rfl; have s6_10 := HA5.out.se.st.cell 10 (.int .i64 s.stamp) rfl; have v6_8 := HA5.out.se.ev.cell 8 (.int .i64 e.stamp) rfl; have v7_7 := HA5.out.se.ev.cell 7 (.string e.who) rfl; have kk := (SE.cs HA5.out.se HK.out).2.2.2.2.2.2.1; have s8_7 := HA5.out.se.st.cell 7 (.int .i64 s.refunded) rfl; have v8_4 := HA5.out.se.ev.cell 4 (.int .i64 e.price) rfl; have t8 := HA5.out.tb.cell 7 (.int .i64 s.refunded) rfl; have u8 := HA5.out.tb.froz 7; have HA8 : Hid (Ap w s e a n cap x2.heap.size { s with events := (s.events + 1), refunded := (s.refunded + e.price) } (.slice a2 n c2) ((x4.setCell ⟨x2.heap.size, 8, none⟩ (.int .i64 (s.events + 1))).setCell ⟨x2.heap.size, 7, none⟩ (.int .i64 (s.refunded + e.price)))) := Ap.set HA5.out 7 _ rfl rfl)
            | ((with_reducible refine guard_load 25 ?_); refine wpList_load_st rfl _ rfl HA8.out.tb rfl ?_)
            | ((with_reducible refine guard_store 25 ?_); refine wpList_store_st (s := zeroS) (s2 := { s with events := (s.events + 1), refunded := (s.refunded + e.price) }) (a2 := a2) (n2 := n) (c2 := c2) rfl _ _ rfl HA8.out.res rfl rfl ?_; intro x9 z1 z2 z3 z4))
      refine bodyPost_ret (results_st2 rfl _ _ _ _ rfl rfl z1) rfl ⟨a2, n, c2, rfl, ?_⟩
      exact HA8.out.done z2 z3
    | false =>
      have hR : fineS s e = { s with events := (s.events + 1), who := e.who, refunded := (s.refunded + e.price) } := by simp [fineS, doS, hk, hst, hw]
      rw [hR]
      clear hn hl hR hjj h1 h2 h3 h4 hp hpr hf hk
      go_enter Tryz.func7, Tryz.ntmps7
      go_wp2_with (first
            | ((with_reducible refine guard_load 25 ?_); clear T1; refine wpList_load_st rfl _ rfl HW1.out.1 rfl ?_)
            | (go_at_call 6; refine (scopy_any s a n cap _ HN.out HLW.out hm).mono ?_; rintro _ x2 ⟨v2, rfl, ho2, hb2⟩; obtain ⟨a2, c2, hv2, _, _, hl2, _⟩ := ho2.shape; simp only [HN.out] at hv2; subst hv2; have HX2 : Hid (OwnL x2 W.heap.size (.slice a2 n c2) s.lines ∧ Below W.heap.size W x2) := ⟨ho2, hb2⟩; clear hb2 ho2 hl2)
            | ((with_reducible refine guard_store 25 ?_); clear T2; refine wpList_store_st (s := zeroS) (s2 := s) (a2 := a2) (n2 := n) (c2 := c2) rfl _ _ rfl (StAt.new x2 zeroS (.slice none 0 0)) rfl rfl ?_; intro x3 z1 z2 z3 z4; have HA3 : Hid (Ap w s e a n cap x2.heap.size s (.slice a2 n c2) x3) := Ap.start HW1.out HLW0.out HX2.out.1 HX2.out.2 z1 (z2 _ _ ((Below.refl x2.heap.size x2).alloc (Nat.le_refl _) _) (Nat.le_refl _)); clear z1 z2 z3 z4)
            | ((with_reducible refine guard_load 25 ?_); clear T3; refine wpList_load_st rfl _ rfl HA3.out.se.st rfl ?_)
            | ((with_reducible refine guard_load 28 ?_); refine wpList_load_ev rfl _ rfl HA3.out.se.ev rfl ?_)
            | (go_at_call 15; refine (rjudge_any s e a n cap _ HN.out HA3.out.se.ln hlm).mono ?_; rw [HJ.out]; rintro _ x4 ⟨rfl, hb4⟩; have HA4 : Hid (Ap w s e a n cap x2.heap.size s (.slice a2 n c2) x4) := Ap.keep HA3.out hb4; clear hb4; have s5_8 := HA4.out.se.st.cell 8 (.int .i64 s.events) rfl; have t5 := HA4.out.tb.cell 8 (.int .i64 s.events) rfl; have u5 := HA4.out.tb.froz 8; have HA5 : Hid (Ap w s e a n cap x2.heap.size { s with events := (s.events + 1) } (.slice a2 n c2) (x4.setCell ⟨x2.heap.size, 8, none⟩ (.int .i64 (s.events + 1)))) := Ap.set HA4.out 8 _ rfl rfl; have s6_10 := HA5.out.se.st.cell 10 (.int .i64 s.stamp) rfl; have v6_8 := HA5.out.se.ev.cell 8 (.int .i64 e.stamp) rfl; have v7_7 := HA5.out.se.ev.cell 7 (.string e.who) rfl; have t7 := HA5.out.tb.cell 11 (.string s.who) rfl; have u7 := HA5.out.tb.froz 11; have HA7 : Hid (Ap w s e a n cap x2.heap.size { s with events := (s.events + 1), who := e.who } (.slice a2 n c2) ((x4.setCell ⟨x2.heap.size, 8, none⟩ (.int .i64 (s.events + 1))).setCell ⟨x2.heap.size, 11, none⟩ (.string e.who))) := Ap.set HA5.out 11 _ rfl rfl; have kk := (SE.cs HA7.out.se HK.out).2.2.2.2.2.2.1; have s8_7 := HA7.out.se.st.cell 7 (.int .i64 s.refunded) rfl; have v8_4 := HA7.out.se.ev.cell 4 (.int .i64 e.price) rfl; have t8 := HA7.out.tb.cell 7 (.int .i64 s.refunded) rfl; have u8 := HA7.out.tb.froz 7; have HA8 : Hid (Ap w s e a n cap x2.heap.size { s with events := (s.events + 1), who := e.who, refunded := (s.refunded + e.price) } (.slice a2 n c2) (((x4.setCell ⟨x2.heap.size, 8, none⟩ (.int .i64 (s.events + 1))).setCell ⟨x2.heap.size, 11, none⟩ (.string e.who)).setCell ⟨x2.heap.size, 7, none⟩ (.int .i64 (s.refunded + e.price)))) := Ap.set HA7.out 7 _ rfl rfl)
            | ((with_reducible refine guard_load 25 ?_); refine wpList_load_st rfl _ rfl HA8.out.tb rfl ?_)
            | ((with_reducible refine guard_store 25 ?_); refine wpList_store_st (s := zeroS) (s2 := { s with events := (s.events + 1), who := e.who, refunded := (s.refunded + e.price) }) (a2 := a2) (n2 := n) (c2 := c2) rfl _ _ rfl HA8.out.res rfl rfl ?_; intro x9 z1 z2 z3 z4))
      refine bodyPost_ret (results_st2 rfl _ _ _ _ rfl rfl z1) rfl ⟨a2, n, c2, rfl, ?_⟩
      exact HA8.out.done z2 z3
end Go.Proofs.YtldbdhhbmnbmaaaGreat
namespace Go.Proofs.YtldbdhhbmnbmaaaGreat
open Go.ChangeShapes Go.WideShapes Go.ChangeAt Go.RowKit
set_option linter.unusedVariables false
set_option linter.unusedSimpArgs false
set_option maxRecDepth 20000 in
set_option maxHeartbeats 16000000 in
theorem rapply_8 (s : St) (e : Ev) (a : Option Addr) (n cap : Nat) (w : World) (hn : s.lines.length = n) (hl : Lns w a s.lines) (hm : n * 32 ≤ 140737488351232) (hj : judS s e = 0) (hk : e.kind = 8) :
    Calls Tryz.prog 7 #[.agg (stA s (.slice a n cap)), .agg (evA e)] w fun r w' => ApplyPost (nextS s e) (judS s e) w r w' := by
  obtain ⟨W, hW, h1, h2, h3, h4⟩ := t3_new w s e (.slice a n cap)
  have HN : Hid (s.lines.length = n) := hn
  have hlm : n ≤ maxLen := by unfold maxLen; omega
  have HW1 : Hid (StAt W w.heap.size s (.slice a n cap) ∧ EvAt W (w.heap.size + 1) e ∧ StAt W (w.heap.size + 2) zeroS (.slice none 0 0) ∧ Below w.heap.size w W) := ⟨h1, h2, h3, h4⟩
  have HLW0 : Hid (Lns w a s.lines) := hl
  have HLW : Hid (Lns W a s.lines) := hl.keep h4
  obtain ⟨j, hjj⟩ : ∃ j, judS s e = j := ⟨_, rfl⟩
  have HJ : Hid (judS s e = j) := hjj
  have T1 : Hid True := trivial
  have T2 : Hid True := trivial
  have T3 : Hid True := trivial
  have hf : nextS s e = fineS s e := by unfold nextS; rw [if_neg (by rw [hj]; decide), if_pos hj]
  have hp := vl_of (jud_parts (s := s) (e := e) (by rw [hj]; decide)).1
  have he1 := hp.e1
  have he2 := hp.e2
  have hpr := right_of (jud_parts (s := s) (e := e) (by rw [hj]; decide)).2.1
  have pp0 : 0 ≤ e.price := hpr.price0
  have pp1 : e.price ≤ 1000000000000000 := by have := hpr.price1; have h5 : hiP 5 ≤ 1000000000000000 := (by decide); omega
  have pd0 : 0 ≤ s.refunded := hp.f1
  have pd1 : s.refunded ≤ s.paid := hp.f2
  have pd2 : s.paid ≤ 240000000000000 := by have := hp.p2; have := (vld_due (vl_to hp)).2.2.2.2.2.2.2; omega
  rw [hjj] at hj
  subst hj
  rw [hf, hjj]
  have HK : Hid (e.kind = 8) := hk
  by_cases hst : s.stamp < e.stamp
  · have gst : decide (s.stamp < e.stamp) = true := by simpa using hst
    cases hw : e.who.toList == [] with
    | true =>
      have hR : fineS s e = { s with events := (s.events + 1), stamp := e.stamp, prior := s.status, status := 2 } := by simp [fineS, doS, hk, hst, hw]
      rw [hR]
      clear hn hl hR hjj h1 h2 h3 h4 hp hpr hf hk
      go_enter Tryz.func7, Tryz.ntmps7
      go_wp2_with (first
            | ((with_reducible refine guard_load 25 ?_); clear T1; refine wpList_load_st rfl _ rfl HW1.out.1 rfl ?_)
            | (go_at_call 6; refine (scopy_any s a n cap _ HN.out HLW.out hm).mono ?_; rintro _ x2 ⟨v2, rfl, ho2, hb2⟩; obtain ⟨a2, c2, hv2, _, _, hl2, _⟩ := ho2.shape; simp only [HN.out] at hv2; subst hv2; have HX2 : Hid (OwnL x2 W.heap.size (.slice a2 n c2) s.lines ∧ Below W.heap.size W x2) := ⟨ho2, hb2⟩; clear hb2 ho2 hl2)
            | ((with_reducible refine guard_store 25 ?_); clear T2; refine wpList_store_st (s := zeroS) (s2 := s) (a2 := a2) (n2 := n) (c2 := c2) rfl _ _ rfl (StAt.new x2 zeroS (.slice none 0 0)) rfl rfl ?_; intro x3 z1 z2 z3 z4; have HA3 : Hid (Ap w s e a n cap x2.heap.size s (.slice a2 n c2) x3) := Ap.start HW1.out HLW0.out HX2.out.1 HX2.out.2 z1 (z2 _ _ ((Below.refl x2.heap.size x2).alloc (Nat.le_refl _) _) (Nat.le_refl _)); clear z1 z2 z3 z4)
            | ((with_reducible refine guard_load 25 ?_); clear T3; refine wpList_load_st rfl _ rfl HA3.out.se.st rfl ?_)
            | ((with_reducible refine guard_load 28 ?_); refine wpList_load_ev rfl _ rfl HA3.out.se.ev rfl ?_)
            | (go_at_call 15; refine (rjudge_any s e a n cap _ HN.out HA3.out.se.ln hlm).mono ?_; rw [HJ.out]; rintro _ x4 ⟨rfl, hb4⟩; have HA4 : Hid (Ap w s e a n cap x2.heap.size s (.slice a2 n c2) x4) := Ap.keep HA3.out hb4; clear hb4; have s5_8 := HA4.out.se.st.cell 8 (.int .i64 s.events) rfl; have t5 := HA4.out.tb.cell 8 (.int .i64 s.events) rfl; have u5 := HA4.out.tb.froz 8; have HA5 : Hid (Ap w s e a n cap x2.heap.size { s with events := (s.events + 1) } (.slice a2 n c2) (x4.setCell ⟨x2.heap.size, 8, none⟩ (.int .i64 (s.events + 1)))) := Ap.set HA4.out 8 _ rfl rfl; have s6_10 := HA5.out.se.st.cell 10 (.int .i64 s.stamp) rfl; have v6_8 := HA5.out.se.ev.cell 8 (.int .i64 e.stamp) rfl; have t6 := HA5.out.tb.cell 10 (.int .i64 s.stamp) rfl; have u6 := HA5.out.tb.froz 10; have HA6 : Hid (Ap w s e a n cap x2.heap.size { s with events := (s.events + 1), stamp := e.stamp } (.slice a2 n c2) ((x4.setCell ⟨x2.heap.size, 8, none⟩ (.int .i64 (s.events + 1))).setCell ⟨x2.heap.size, 10, none⟩ (.int .i64 e.stamp))) := Ap.set HA5.out 10 _ rfl rfl; have v7_7 := HA6.out.se.ev.cell 7 (.string e.who) rfl; have kk := (SE.cs HA6.out.se HK.out).2.2.2.2.2.2.1; have s8_1 := HA6.out.se.st.cell 1 (.int .i64 s.status) rfl; have t8 := HA6.out.tb.cell 2 (.int .i64 s.prior) rfl; have u8 := HA6.out.tb.froz 2; have HA8 : Hid (Ap w s e a n cap x2.heap.size { s with events := (s.events + 1), stamp := e.stamp, prior := s.status } (.slice a2 n c2) (((x4.setCell ⟨x2.heap.size, 8, none⟩ (.int .i64 (s.events + 1))).setCell ⟨x2.heap.size, 10, none⟩ (.int .i64 e.stamp)).setCell ⟨x2.heap.size, 2, none⟩ (.int .i64 s.status))) := Ap.set HA6.out 2 _ rfl rfl; have t9 := HA8.out.tb.cell 1 (.int .i64 s.status) rfl; have u9 := HA8.out.tb.froz 1; have HA9 : Hid (Ap w s e a n cap x2.heap.size { s with events := (s.events + 1), stamp := e.stamp, prior := s.status, status := 2 } (.slice a2 n c2) ((((x4.setCell ⟨x2.heap.size, 8, none⟩ (.int .i64 (s.events + 1))).setCell ⟨x2.heap.size, 10, none⟩ (.int .i64 e.stamp)).setCell ⟨x2.heap.size, 2, none⟩ (.int .i64 s.status)).setCell ⟨x2.heap.size, 1, none⟩ (.int .i64 2))) := Ap.set HA8.out 1 _ rfl rfl)
            | ((with_reducible refine guard_load 25 ?_); refine wpList_load_st rfl _ rfl HA9.out.tb rfl ?_)
            | ((with_reducible refine guard_store 25 ?_); refine wpList_store_st (s := zeroS) (s2 := { s with events := (s.events + 1), stamp := e.stamp, prior := s.status, status := 2 }) (a2 := a2) (n2 := n) (c2 := c2) rfl _ _ rfl HA9.out.res rfl rfl ?_; intro x9 z1 z2 z3 z4))
      refine bodyPost_ret (results_st2 rfl _ _ _ _ rfl rfl z1) rfl ⟨a2, n, c2, rfl, ?_⟩
      exact HA9.out.done z2 z3
    | false =>
      have hR : fineS s e = { s with events := (s.events + 1), stamp := e.stamp, who := e.who, prior := s.status, status := 2 } := by simp [fineS, doS, hk, hst, hw]
      rw [hR]
      clear hn hl hR hjj h1 h2 h3 h4 hp hpr hf hk
      go_enter Tryz.func7, Tryz.ntmps7
      go_wp2_with (first
            | ((with_reducible refine guard_load 25 ?_); clear T1; refine wpList_load_st rfl _ rfl HW1.out.1 rfl ?_)
            | (go_at_call 6; refine (scopy_any s a n cap _ HN.out HLW.out hm).mono ?_; rintro _ x2 ⟨v2, rfl, ho2, hb2⟩; obtain ⟨a2, c2, hv2, _, _, hl2, _⟩ := ho2.shape; simp only [HN.out] at hv2; subst hv2; have HX2 : Hid (OwnL x2 W.heap.size (.slice a2 n c2) s.lines ∧ Below W.heap.size W x2) := ⟨ho2, hb2⟩; clear hb2 ho2 hl2)
            | ((with_reducible refine guard_store 25 ?_); clear T2; refine wpList_store_st (s := zeroS) (s2 := s) (a2 := a2) (n2 := n) (c2 := c2) rfl _ _ rfl (StAt.new x2 zeroS (.slice none 0 0)) rfl rfl ?_; intro x3 z1 z2 z3 z4; have HA3 : Hid (Ap w s e a n cap x2.heap.size s (.slice a2 n c2) x3) := Ap.start HW1.out HLW0.out HX2.out.1 HX2.out.2 z1 (z2 _ _ ((Below.refl x2.heap.size x2).alloc (Nat.le_refl _) _) (Nat.le_refl _)); clear z1 z2 z3 z4)
            | ((with_reducible refine guard_load 25 ?_); clear T3; refine wpList_load_st rfl _ rfl HA3.out.se.st rfl ?_)
            | ((with_reducible refine guard_load 28 ?_); refine wpList_load_ev rfl _ rfl HA3.out.se.ev rfl ?_)
            | (go_at_call 15; refine (rjudge_any s e a n cap _ HN.out HA3.out.se.ln hlm).mono ?_; rw [HJ.out]; rintro _ x4 ⟨rfl, hb4⟩; have HA4 : Hid (Ap w s e a n cap x2.heap.size s (.slice a2 n c2) x4) := Ap.keep HA3.out hb4; clear hb4; have s5_8 := HA4.out.se.st.cell 8 (.int .i64 s.events) rfl; have t5 := HA4.out.tb.cell 8 (.int .i64 s.events) rfl; have u5 := HA4.out.tb.froz 8; have HA5 : Hid (Ap w s e a n cap x2.heap.size { s with events := (s.events + 1) } (.slice a2 n c2) (x4.setCell ⟨x2.heap.size, 8, none⟩ (.int .i64 (s.events + 1)))) := Ap.set HA4.out 8 _ rfl rfl; have s6_10 := HA5.out.se.st.cell 10 (.int .i64 s.stamp) rfl; have v6_8 := HA5.out.se.ev.cell 8 (.int .i64 e.stamp) rfl; have t6 := HA5.out.tb.cell 10 (.int .i64 s.stamp) rfl; have u6 := HA5.out.tb.froz 10; have HA6 : Hid (Ap w s e a n cap x2.heap.size { s with events := (s.events + 1), stamp := e.stamp } (.slice a2 n c2) ((x4.setCell ⟨x2.heap.size, 8, none⟩ (.int .i64 (s.events + 1))).setCell ⟨x2.heap.size, 10, none⟩ (.int .i64 e.stamp))) := Ap.set HA5.out 10 _ rfl rfl; have v7_7 := HA6.out.se.ev.cell 7 (.string e.who) rfl; have t7 := HA6.out.tb.cell 11 (.string s.who) rfl; have u7 := HA6.out.tb.froz 11; have HA7 : Hid (Ap w s e a n cap x2.heap.size { s with events := (s.events + 1), stamp := e.stamp, who := e.who } (.slice a2 n c2) (((x4.setCell ⟨x2.heap.size, 8, none⟩ (.int .i64 (s.events + 1))).setCell ⟨x2.heap.size, 10, none⟩ (.int .i64 e.stamp)).setCell ⟨x2.heap.size, 11, none⟩ (.string e.who))) := Ap.set HA6.out 11 _ rfl rfl; have kk := (SE.cs HA7.out.se HK.out).2.2.2.2.2.2.1; have s8_1 := HA7.out.se.st.cell 1 (.int .i64 s.status) rfl; have t8 := HA7.out.tb.cell 2 (.int .i64 s.prior) rfl; have u8 := HA7.out.tb.froz 2; have HA8 : Hid (Ap w s e a n cap x2.heap.size { s with events := (s.events + 1), stamp := e.stamp, who := e.who, prior := s.status } (.slice a2 n c2) ((((x4.setCell ⟨x2.heap.size, 8, none⟩ (.int .i64 (s.events + 1))).setCell ⟨x2.heap.size, 10, none⟩ (.int .i64 e.stamp)).setCell ⟨x2.heap.size, 11, none⟩ (.string e.who)).setCell ⟨x2.heap.size, 2, none⟩ (.int .i64 s.status))) := Ap.set HA7.out 2 _ rfl rfl; have t9 := HA8.out.tb.cell 1 (.int .i64 s.status) rfl; have u9 := HA8.out.tb.froz 1; have HA9 : Hid (Ap w s e a n cap x2.heap.size { s with events := (s.events + 1), stamp := e.stamp, who := e.who, prior := s.status, status := 2 } (.slice a2 n c2) (((((x4.setCell ⟨x2.heap.size, 8, none⟩ (.int .i64 (s.events + 1))).setCell ⟨x2.heap.size, 10, none⟩ (.int .i64 e.stamp)).setCell ⟨x2.heap.size, 11, none⟩ (.string e.who)).setCell ⟨x2.heap.size, 2, none⟩ (.int .i64 s.status)).setCell ⟨x2.heap.size, 1, none⟩ (.int .i64 2))) := Ap.set HA8.out 1 _ rfl rfl)
            | ((with_reducible refine guard_load 25 ?_); refine wpList_load_st rfl _ rfl HA9.out.tb rfl ?_)
            | ((with_reducible refine guard_store 25 ?_); refine wpList_store_st (s := zeroS) (s2 := { s with events := (s.events + 1), stamp := e.stamp, who := e.who, prior := s.status, status := 2 }) (a2 := a2) (n2 := n) (c2 := c2) rfl _ _ rfl HA9.out.res rfl rfl ?_; intro x9 z1 z2 z3 z4))
      refine bodyPost_ret (results_st2 rfl _ _ _ _ rfl rfl z1) rfl ⟨a2, n, c2, rfl, ?_⟩
      exact HA9.out.done z2 z3
  · have gst : decide (s.stamp < e.stamp) = false := by simpa using hst
    cases hw : e.who.toList == [] with
    | true =>
      have hR : fineS s e = { s with events := (s.events + 1), prior := s.status, status := 2 } := by simp [fineS, doS, hk, hst, hw]
      rw [hR]
      clear hn hl hR hjj h1 h2 h3 h4 hp hpr hf hk
      go_enter Tryz.func7, Tryz.ntmps7
      go_wp2_with (first
            | ((with_reducible refine guard_load 25 ?_); clear T1; refine wpList_load_st rfl _ rfl HW1.out.1 rfl ?_)
            | (go_at_call 6; refine (scopy_any s a n cap _ HN.out HLW.out hm).mono ?_; rintro _ x2 ⟨v2, rfl, ho2, hb2⟩; obtain ⟨a2, c2, hv2, _, _, hl2, _⟩ := ho2.shape; simp only [HN.out] at hv2; subst hv2; have HX2 : Hid (OwnL x2 W.heap.size (.slice a2 n c2) s.lines ∧ Below W.heap.size W x2) := ⟨ho2, hb2⟩; clear hb2 ho2 hl2)
            | ((with_reducible refine guard_store 25 ?_); clear T2; refine wpList_store_st (s := zeroS) (s2 := s) (a2 := a2) (n2 := n) (c2 := c2) rfl _ _ rfl (StAt.new x2 zeroS (.slice none 0 0)) rfl rfl ?_; intro x3 z1 z2 z3 z4; have HA3 : Hid (Ap w s e a n cap x2.heap.size s (.slice a2 n c2) x3) := Ap.start HW1.out HLW0.out HX2.out.1 HX2.out.2 z1 (z2 _ _ ((Below.refl x2.heap.size x2).alloc (Nat.le_refl _) _) (Nat.le_refl _)); clear z1 z2 z3 z4)
            | ((with_reducible refine guard_load 25 ?_); clear T3; refine wpList_load_st rfl _ rfl HA3.out.se.st rfl ?_)
            | ((with_reducible refine guard_load 28 ?_); refine wpList_load_ev rfl _ rfl HA3.out.se.ev rfl ?_)
            | (go_at_call 15; refine (rjudge_any s e a n cap _ HN.out HA3.out.se.ln hlm).mono ?_; rw [HJ.out]; rintro _ x4 ⟨rfl, hb4⟩; have HA4 : Hid (Ap w s e a n cap x2.heap.size s (.slice a2 n c2) x4) := Ap.keep HA3.out hb4; clear hb4; have s5_8 := HA4.out.se.st.cell 8 (.int .i64 s.events) rfl; have t5 := HA4.out.tb.cell 8 (.int .i64 s.events) rfl; have u5 := HA4.out.tb.froz 8; have HA5 : Hid (Ap w s e a n cap x2.heap.size { s with events := (s.events + 1) } (.slice a2 n c2) (x4.setCell ⟨x2.heap.size, 8, none⟩ (.int .i64 (s.events + 1)))) := Ap.set HA4.out 8 _ rfl rfl; have s6_10 := HA5.out.se.st.cell 10 (.int .i64 s.stamp) rfl; have v6_8 := HA5.out.se.ev.cell 8 (.int .i64 e.stamp) rfl; have v7_7 := HA5.out.se.ev.cell 7 (.string e.who) rfl; have kk := (SE.cs HA5.out.se HK.out).2.2.2.2.2.2.1; have s8_1 := HA5.out.se.st.cell 1 (.int .i64 s.status) rfl; have t8 := HA5.out.tb.cell 2 (.int .i64 s.prior) rfl; have u8 := HA5.out.tb.froz 2; have HA8 : Hid (Ap w s e a n cap x2.heap.size { s with events := (s.events + 1), prior := s.status } (.slice a2 n c2) ((x4.setCell ⟨x2.heap.size, 8, none⟩ (.int .i64 (s.events + 1))).setCell ⟨x2.heap.size, 2, none⟩ (.int .i64 s.status))) := Ap.set HA5.out 2 _ rfl rfl; have t9 := HA8.out.tb.cell 1 (.int .i64 s.status) rfl; have u9 := HA8.out.tb.froz 1; have HA9 : Hid (Ap w s e a n cap x2.heap.size { s with events := (s.events + 1), prior := s.status, status := 2 } (.slice a2 n c2) (((x4.setCell ⟨x2.heap.size, 8, none⟩ (.int .i64 (s.events + 1))).setCell ⟨x2.heap.size, 2, none⟩ (.int .i64 s.status)).setCell ⟨x2.heap.size, 1, none⟩ (.int .i64 2))) := Ap.set HA8.out 1 _ rfl rfl)
            | ((with_reducible refine guard_load 25 ?_); refine wpList_load_st rfl _ rfl HA9.out.tb rfl ?_)
            | ((with_reducible refine guard_store 25 ?_); refine wpList_store_st (s := zeroS) (s2 := { s with events := (s.events + 1), prior := s.status, status := 2 }) (a2 := a2) (n2 := n) (c2 := c2) rfl _ _ rfl HA9.out.res rfl rfl ?_; intro x9 z1 z2 z3 z4))
      refine bodyPost_ret (results_st2 rfl _ _ _ _ rfl rfl z1) rfl ⟨a2, n, c2, rfl, ?_⟩
      exact HA9.out.done z2 z3
    | false =>
      have hR : fineS s e = { s with events := (s.events + 1), who := e.who, prior := s.status, status := 2 } := by simp [fineS, doS, hk, hst, hw]
      rw [hR]
      clear hn hl hR hjj h1 h2 h3 h4 hp hpr hf hk
      go_enter Tryz.func7, Tryz.ntmps7
      go_wp2_with (first
            | ((with_reducible refine guard_load 25 ?_); clear T1; refine wpList_load_st rfl _ rfl HW1.out.1 rfl ?_)
            | (go_at_call 6; refine (scopy_any s a n cap _ HN.out HLW.out hm).mono ?_; rintro _ x2 ⟨v2, rfl, ho2, hb2⟩; obtain ⟨a2, c2, hv2, _, _, hl2, _⟩ := ho2.shape; simp only [HN.out] at hv2; subst hv2; have HX2 : Hid (OwnL x2 W.heap.size (.slice a2 n c2) s.lines ∧ Below W.heap.size W x2) := ⟨ho2, hb2⟩; clear hb2 ho2 hl2)
            | ((with_reducible refine guard_store 25 ?_); clear T2; refine wpList_store_st (s := zeroS) (s2 := s) (a2 := a2) (n2 := n) (c2 := c2) rfl _ _ rfl (StAt.new x2 zeroS (.slice none 0 0)) rfl rfl ?_; intro x3 z1 z2 z3 z4; have HA3 : Hid (Ap w s e a n cap x2.heap.size s (.slice a2 n c2) x3) := Ap.start HW1.out HLW0.out HX2.out.1 HX2.out.2 z1 (z2 _ _ ((Below.refl x2.heap.size x2).alloc (Nat.le_refl _) _) (Nat.le_refl _)); clear z1 z2 z3 z4)
            | ((with_reducible refine guard_load 25 ?_); clear T3; refine wpList_load_st rfl _ rfl HA3.out.se.st rfl ?_)
            | ((with_reducible refine guard_load 28 ?_); refine wpList_load_ev rfl _ rfl HA3.out.se.ev rfl ?_)
            | (go_at_call 15; refine (rjudge_any s e a n cap _ HN.out HA3.out.se.ln hlm).mono ?_; rw [HJ.out]; rintro _ x4 ⟨rfl, hb4⟩; have HA4 : Hid (Ap w s e a n cap x2.heap.size s (.slice a2 n c2) x4) := Ap.keep HA3.out hb4; clear hb4; have s5_8 := HA4.out.se.st.cell 8 (.int .i64 s.events) rfl; have t5 := HA4.out.tb.cell 8 (.int .i64 s.events) rfl; have u5 := HA4.out.tb.froz 8; have HA5 : Hid (Ap w s e a n cap x2.heap.size { s with events := (s.events + 1) } (.slice a2 n c2) (x4.setCell ⟨x2.heap.size, 8, none⟩ (.int .i64 (s.events + 1)))) := Ap.set HA4.out 8 _ rfl rfl; have s6_10 := HA5.out.se.st.cell 10 (.int .i64 s.stamp) rfl; have v6_8 := HA5.out.se.ev.cell 8 (.int .i64 e.stamp) rfl; have v7_7 := HA5.out.se.ev.cell 7 (.string e.who) rfl; have t7 := HA5.out.tb.cell 11 (.string s.who) rfl; have u7 := HA5.out.tb.froz 11; have HA7 : Hid (Ap w s e a n cap x2.heap.size { s with events := (s.events + 1), who := e.who } (.slice a2 n c2) ((x4.setCell ⟨x2.heap.size, 8, none⟩ (.int .i64 (s.events + 1))).setCell ⟨x2.heap.size, 11, none⟩ (.string e.who))) := Ap.set HA5.out 11 _ rfl rfl; have kk := (SE.cs HA7.out.se HK.out).2.2.2.2.2.2.1; have s8_1 := HA7.out.se.st.cell 1 (.int .i64 s.status) rfl; have t8 := HA7.out.tb.cell 2 (.int .i64 s.prior) rfl; have u8 := HA7.out.tb.froz 2; have HA8 : Hid (Ap w s e a n cap x2.heap.size { s with events := (s.events + 1), who := e.who, prior := s.status } (.slice a2 n c2) (((x4.setCell ⟨x2.heap.size, 8, none⟩ (.int .i64 (s.events + 1))).setCell ⟨x2.heap.size, 11, none⟩ (.string e.who)).setCell ⟨x2.heap.size, 2, none⟩ (.int .i64 s.status))) := Ap.set HA7.out 2 _ rfl rfl; have t9 := HA8.out.tb.cell 1 (.int .i64 s.status) rfl; have u9 := HA8.out.tb.froz 1; have HA9 : Hid (Ap w s e a n cap x2.heap.size { s with events := (s.events + 1), who := e.who, prior := s.status, status := 2 } (.slice a2 n c2) ((((x4.setCell ⟨x2.heap.size, 8, none⟩ (.int .i64 (s.events + 1))).setCell ⟨x2.heap.size, 11, none⟩ (.string e.who)).setCell ⟨x2.heap.size, 2, none⟩ (.int .i64 s.status)).setCell ⟨x2.heap.size, 1, none⟩ (.int .i64 2))) := Ap.set HA8.out 1 _ rfl rfl)
            | ((with_reducible refine guard_load 25 ?_); refine wpList_load_st rfl _ rfl HA9.out.tb rfl ?_)
            | ((with_reducible refine guard_store 25 ?_); refine wpList_store_st (s := zeroS) (s2 := { s with events := (s.events + 1), who := e.who, prior := s.status, status := 2 }) (a2 := a2) (n2 := n) (c2 := c2) rfl _ _ rfl HA9.out.res rfl rfl ?_; intro x9 z1 z2 z3 z4))
      refine bodyPost_ret (results_st2 rfl _ _ _ _ rfl rfl z1) rfl ⟨a2, n, c2, rfl, ?_⟩
      exact HA9.out.done z2 z3
end Go.Proofs.YtldbdhhbmnbmaaaGreat
namespace Go.Proofs.YtldbdhhbmnbmaaaGreat
open Go.ChangeShapes Go.WideShapes Go.ChangeAt Go.RowKit
set_option linter.unusedVariables false
set_option linter.unusedSimpArgs false
set_option maxRecDepth 20000 in
set_option maxHeartbeats 16000000 in
theorem rapply_9 (s : St) (e : Ev) (a : Option Addr) (n cap : Nat) (w : World) (hn : s.lines.length = n) (hl : Lns w a s.lines) (hm : n * 32 ≤ 140737488351232) (hj : judS s e = 0) (hk : e.kind = 9) :
    Calls Tryz.prog 7 #[.agg (stA s (.slice a n cap)), .agg (evA e)] w fun r w' => ApplyPost (nextS s e) (judS s e) w r w' := by
  obtain ⟨W, hW, h1, h2, h3, h4⟩ := t3_new w s e (.slice a n cap)
  have HN : Hid (s.lines.length = n) := hn
  have hlm : n ≤ maxLen := by unfold maxLen; omega
  have HW1 : Hid (StAt W w.heap.size s (.slice a n cap) ∧ EvAt W (w.heap.size + 1) e ∧ StAt W (w.heap.size + 2) zeroS (.slice none 0 0) ∧ Below w.heap.size w W) := ⟨h1, h2, h3, h4⟩
  have HLW0 : Hid (Lns w a s.lines) := hl
  have HLW : Hid (Lns W a s.lines) := hl.keep h4
  obtain ⟨j, hjj⟩ : ∃ j, judS s e = j := ⟨_, rfl⟩
  have HJ : Hid (judS s e = j) := hjj
  have T1 : Hid True := trivial
  have T2 : Hid True := trivial
  have T3 : Hid True := trivial
  have hf : nextS s e = fineS s e := by unfold nextS; rw [if_neg (by rw [hj]; decide), if_pos hj]
  have hp := vl_of (jud_parts (s := s) (e := e) (by rw [hj]; decide)).1
  have he1 := hp.e1
  have he2 := hp.e2
  have hpr := right_of (jud_parts (s := s) (e := e) (by rw [hj]; decide)).2.1
  have pp0 : 0 ≤ e.price := hpr.price0
  have pp1 : e.price ≤ 1000000000000000 := by have := hpr.price1; have h5 : hiP 5 ≤ 1000000000000000 := (by decide); omega
  have pd0 : 0 ≤ s.refunded := hp.f1
  have pd1 : s.refunded ≤ s.paid := hp.f2
  have pd2 : s.paid ≤ 240000000000000 := by have := hp.p2; have := (vld_due (vl_to hp)).2.2.2.2.2.2.2; omega
  rw [hjj] at hj
  subst hj
  rw [hf, hjj]
  have HK : Hid (e.kind = 9) := hk
  by_cases hst : s.stamp < e.stamp
  · have gst : decide (s.stamp < e.stamp) = true := by simpa using hst
    cases hw : e.who.toList == [] with
    | true =>
      have hR : fineS s e = { s with events := (s.events + 1), stamp := e.stamp, status := s.prior, prior := 0 } := by simp [fineS, doS, hk, hst, hw]
      rw [hR]
      clear hn hl hR hjj h1 h2 h3 h4 hp hpr hf hk
      go_enter Tryz.func7, Tryz.ntmps7
      go_wp2_with (first
            | ((with_reducible refine guard_load 25 ?_); clear T1; refine wpList_load_st rfl _ rfl HW1.out.1 rfl ?_)
            | (go_at_call 6; refine (scopy_any s a n cap _ HN.out HLW.out hm).mono ?_; rintro _ x2 ⟨v2, rfl, ho2, hb2⟩; obtain ⟨a2, c2, hv2, _, _, hl2, _⟩ := ho2.shape; simp only [HN.out] at hv2; subst hv2; have HX2 : Hid (OwnL x2 W.heap.size (.slice a2 n c2) s.lines ∧ Below W.heap.size W x2) := ⟨ho2, hb2⟩; clear hb2 ho2 hl2)
            | ((with_reducible refine guard_store 25 ?_); clear T2; refine wpList_store_st (s := zeroS) (s2 := s) (a2 := a2) (n2 := n) (c2 := c2) rfl _ _ rfl (StAt.new x2 zeroS (.slice none 0 0)) rfl rfl ?_; intro x3 z1 z2 z3 z4; have HA3 : Hid (Ap w s e a n cap x2.heap.size s (.slice a2 n c2) x3) := Ap.start HW1.out HLW0.out HX2.out.1 HX2.out.2 z1 (z2 _ _ ((Below.refl x2.heap.size x2).alloc (Nat.le_refl _) _) (Nat.le_refl _)); clear z1 z2 z3 z4)
            | ((with_reducible refine guard_load 25 ?_); clear T3; refine wpList_load_st rfl _ rfl HA3.out.se.st rfl ?_)
            | ((with_reducible refine guard_load 28 ?_); refine wpList_load_ev rfl _ rfl HA3.out.se.ev rfl ?_)
            | (go_at_call 15; refine (rjudge_any s e a n cap _ HN.out HA3.out.se.ln hlm).mono ?_; rw [HJ.out]; rintro _ x4 ⟨rfl, hb4⟩; have HA4 : Hid (Ap w s e a n cap x2.heap.size s (.slice a2 n c2) x4) := Ap.keep HA3.out hb4; clear hb4; have s5_8 := HA4.out.se.st.cell 8 (.int .i64 s.events) rfl; have t5 := HA4.out.tb.cell 8 (.int .i64 s.events) rfl; have u5 := HA4.out.tb.froz 8; have HA5 : Hid (Ap w s e a n cap x2.heap.size { s with events := (s.events + 1) } (.slice a2 n c2) (x4.setCell ⟨x2.heap.size, 8, none⟩ (.int .i64 (s.events + 1)))) := Ap.set HA4.out 8 _ rfl rfl; have s6_10 := HA5.out.se.st.cell 10 (.int .i64 s.stamp) rfl; have v6_8 := HA5.out.se.ev.cell 8 (.int .i64 e.stamp) rfl; have t6 := HA5.out.tb.cell 10 (.int .i64 s.stamp) rfl; have u6 := HA5.out.tb.froz 10; have HA6 : Hid (Ap w s e a n cap x2.heap.size { s with events := (s.events + 1), stamp := e.stamp } (.slice a2 n c2) ((x4.setCell ⟨x2.heap.size, 8, none⟩ (.int .i64 (s.events + 1))).setCell ⟨x2.heap.size, 10, none⟩ (.int .i64 e.stamp))) := Ap.set HA5.out 10 _ rfl rfl; have v7_7 := HA6.out.se.ev.cell 7 (.string e.who) rfl; have kk := (SE.cs HA6.out.se HK.out).2.2.2.2.2.2.1; have s8_2 := HA6.out.se.st.cell 2 (.int .i64 s.prior) rfl; have t8 := HA6.out.tb.cell 1 (.int .i64 s.status) rfl; have u8 := HA6.out.tb.froz 1; have HA8 : Hid (Ap w s e a n cap x2.heap.size { s with events := (s.events + 1), stamp := e.stamp, status := s.prior } (.slice a2 n c2) (((x4.setCell ⟨x2.heap.size, 8, none⟩ (.int .i64 (s.events + 1))).setCell ⟨x2.heap.size, 10, none⟩ (.int .i64 e.stamp)).setCell ⟨x2.heap.size, 1, none⟩ (.int .i64 s.prior))) := Ap.set HA6.out 1 _ rfl rfl; have t9 := HA8.out.tb.cell 2 (.int .i64 s.prior) rfl; have u9 := HA8.out.tb.froz 2; have HA9 : Hid (Ap w s e a n cap x2.heap.size { s with events := (s.events + 1), stamp := e.stamp, status := s.prior, prior := 0 } (.slice a2 n c2) ((((x4.setCell ⟨x2.heap.size, 8, none⟩ (.int .i64 (s.events + 1))).setCell ⟨x2.heap.size, 10, none⟩ (.int .i64 e.stamp)).setCell ⟨x2.heap.size, 1, none⟩ (.int .i64 s.prior)).setCell ⟨x2.heap.size, 2, none⟩ (.int .i64 0))) := Ap.set HA8.out 2 _ rfl rfl)
            | ((with_reducible refine guard_load 25 ?_); refine wpList_load_st rfl _ rfl HA9.out.tb rfl ?_)
            | ((with_reducible refine guard_store 25 ?_); refine wpList_store_st (s := zeroS) (s2 := { s with events := (s.events + 1), stamp := e.stamp, status := s.prior, prior := 0 }) (a2 := a2) (n2 := n) (c2 := c2) rfl _ _ rfl HA9.out.res rfl rfl ?_; intro x9 z1 z2 z3 z4))
      refine bodyPost_ret (results_st2 rfl _ _ _ _ rfl rfl z1) rfl ⟨a2, n, c2, rfl, ?_⟩
      exact HA9.out.done z2 z3
    | false =>
      have hR : fineS s e = { s with events := (s.events + 1), stamp := e.stamp, who := e.who, status := s.prior, prior := 0 } := by simp [fineS, doS, hk, hst, hw]
      rw [hR]
      clear hn hl hR hjj h1 h2 h3 h4 hp hpr hf hk
      go_enter Tryz.func7, Tryz.ntmps7
      go_wp2_with (first
            | ((with_reducible refine guard_load 25 ?_); clear T1; refine wpList_load_st rfl _ rfl HW1.out.1 rfl ?_)
            | (go_at_call 6; refine (scopy_any s a n cap _ HN.out HLW.out hm).mono ?_; rintro _ x2 ⟨v2, rfl, ho2, hb2⟩; obtain ⟨a2, c2, hv2, _, _, hl2, _⟩ := ho2.shape; simp only [HN.out] at hv2; subst hv2; have HX2 : Hid (OwnL x2 W.heap.size (.slice a2 n c2) s.lines ∧ Below W.heap.size W x2) := ⟨ho2, hb2⟩; clear hb2 ho2 hl2)
            | ((with_reducible refine guard_store 25 ?_); clear T2; refine wpList_store_st (s := zeroS) (s2 := s) (a2 := a2) (n2 := n) (c2 := c2) rfl _ _ rfl (StAt.new x2 zeroS (.slice none 0 0)) rfl rfl ?_; intro x3 z1 z2 z3 z4; have HA3 : Hid (Ap w s e a n cap x2.heap.size s (.slice a2 n c2) x3) := Ap.start HW1.out HLW0.out HX2.out.1 HX2.out.2 z1 (z2 _ _ ((Below.refl x2.heap.size x2).alloc (Nat.le_refl _) _) (Nat.le_refl _)); clear z1 z2 z3 z4)
            | ((with_reducible refine guard_load 25 ?_); clear T3; refine wpList_load_st rfl _ rfl HA3.out.se.st rfl ?_)
            | ((with_reducible refine guard_load 28 ?_); refine wpList_load_ev rfl _ rfl HA3.out.se.ev rfl ?_)
            | (go_at_call 15; refine (rjudge_any s e a n cap _ HN.out HA3.out.se.ln hlm).mono ?_; rw [HJ.out]; rintro _ x4 ⟨rfl, hb4⟩; have HA4 : Hid (Ap w s e a n cap x2.heap.size s (.slice a2 n c2) x4) := Ap.keep HA3.out hb4; clear hb4; have s5_8 := HA4.out.se.st.cell 8 (.int .i64 s.events) rfl; have t5 := HA4.out.tb.cell 8 (.int .i64 s.events) rfl; have u5 := HA4.out.tb.froz 8; have HA5 : Hid (Ap w s e a n cap x2.heap.size { s with events := (s.events + 1) } (.slice a2 n c2) (x4.setCell ⟨x2.heap.size, 8, none⟩ (.int .i64 (s.events + 1)))) := Ap.set HA4.out 8 _ rfl rfl; have s6_10 := HA5.out.se.st.cell 10 (.int .i64 s.stamp) rfl; have v6_8 := HA5.out.se.ev.cell 8 (.int .i64 e.stamp) rfl; have t6 := HA5.out.tb.cell 10 (.int .i64 s.stamp) rfl; have u6 := HA5.out.tb.froz 10; have HA6 : Hid (Ap w s e a n cap x2.heap.size { s with events := (s.events + 1), stamp := e.stamp } (.slice a2 n c2) ((x4.setCell ⟨x2.heap.size, 8, none⟩ (.int .i64 (s.events + 1))).setCell ⟨x2.heap.size, 10, none⟩ (.int .i64 e.stamp))) := Ap.set HA5.out 10 _ rfl rfl; have v7_7 := HA6.out.se.ev.cell 7 (.string e.who) rfl; have t7 := HA6.out.tb.cell 11 (.string s.who) rfl; have u7 := HA6.out.tb.froz 11; have HA7 : Hid (Ap w s e a n cap x2.heap.size { s with events := (s.events + 1), stamp := e.stamp, who := e.who } (.slice a2 n c2) (((x4.setCell ⟨x2.heap.size, 8, none⟩ (.int .i64 (s.events + 1))).setCell ⟨x2.heap.size, 10, none⟩ (.int .i64 e.stamp)).setCell ⟨x2.heap.size, 11, none⟩ (.string e.who))) := Ap.set HA6.out 11 _ rfl rfl; have kk := (SE.cs HA7.out.se HK.out).2.2.2.2.2.2.1; have s8_2 := HA7.out.se.st.cell 2 (.int .i64 s.prior) rfl; have t8 := HA7.out.tb.cell 1 (.int .i64 s.status) rfl; have u8 := HA7.out.tb.froz 1; have HA8 : Hid (Ap w s e a n cap x2.heap.size { s with events := (s.events + 1), stamp := e.stamp, who := e.who, status := s.prior } (.slice a2 n c2) ((((x4.setCell ⟨x2.heap.size, 8, none⟩ (.int .i64 (s.events + 1))).setCell ⟨x2.heap.size, 10, none⟩ (.int .i64 e.stamp)).setCell ⟨x2.heap.size, 11, none⟩ (.string e.who)).setCell ⟨x2.heap.size, 1, none⟩ (.int .i64 s.prior))) := Ap.set HA7.out 1 _ rfl rfl; have t9 := HA8.out.tb.cell 2 (.int .i64 s.prior) rfl; have u9 := HA8.out.tb.froz 2; have HA9 : Hid (Ap w s e a n cap x2.heap.size { s with events := (s.events + 1), stamp := e.stamp, who := e.who, status := s.prior, prior := 0 } (.slice a2 n c2) (((((x4.setCell ⟨x2.heap.size, 8, none⟩ (.int .i64 (s.events + 1))).setCell ⟨x2.heap.size, 10, none⟩ (.int .i64 e.stamp)).setCell ⟨x2.heap.size, 11, none⟩ (.string e.who)).setCell ⟨x2.heap.size, 1, none⟩ (.int .i64 s.prior)).setCell ⟨x2.heap.size, 2, none⟩ (.int .i64 0))) := Ap.set HA8.out 2 _ rfl rfl)
            | ((with_reducible refine guard_load 25 ?_); refine wpList_load_st rfl _ rfl HA9.out.tb rfl ?_)
            | ((with_reducible refine guard_store 25 ?_); refine wpList_store_st (s := zeroS) (s2 := { s with events := (s.events + 1), stamp := e.stamp, who := e.who, status := s.prior, prior := 0 }) (a2 := a2) (n2 := n) (c2 := c2) rfl _ _ rfl HA9.out.res rfl rfl ?_; intro x9 z1 z2 z3 z4))
      refine bodyPost_ret (results_st2 rfl _ _ _ _ rfl rfl z1) rfl ⟨a2, n, c2, rfl, ?_⟩
      exact HA9.out.done z2 z3
  · have gst : decide (s.stamp < e.stamp) = false := by simpa using hst
    cases hw : e.who.toList == [] with
    | true =>
      have hR : fineS s e = { s with events := (s.events + 1), status := s.prior, prior := 0 } := by simp [fineS, doS, hk, hst, hw]
      rw [hR]
      clear hn hl hR hjj h1 h2 h3 h4 hp hpr hf hk
      go_enter Tryz.func7, Tryz.ntmps7
      go_wp2_with (first
            | ((with_reducible refine guard_load 25 ?_); clear T1; refine wpList_load_st rfl _ rfl HW1.out.1 rfl ?_)
            | (go_at_call 6; refine (scopy_any s a n cap _ HN.out HLW.out hm).mono ?_; rintro _ x2 ⟨v2, rfl, ho2, hb2⟩; obtain ⟨a2, c2, hv2, _, _, hl2, _⟩ := ho2.shape; simp only [HN.out] at hv2; subst hv2; have HX2 : Hid (OwnL x2 W.heap.size (.slice a2 n c2) s.lines ∧ Below W.heap.size W x2) := ⟨ho2, hb2⟩; clear hb2 ho2 hl2)
            | ((with_reducible refine guard_store 25 ?_); clear T2; refine wpList_store_st (s := zeroS) (s2 := s) (a2 := a2) (n2 := n) (c2 := c2) rfl _ _ rfl (StAt.new x2 zeroS (.slice none 0 0)) rfl rfl ?_; intro x3 z1 z2 z3 z4; have HA3 : Hid (Ap w s e a n cap x2.heap.size s (.slice a2 n c2) x3) := Ap.start HW1.out HLW0.out HX2.out.1 HX2.out.2 z1 (z2 _ _ ((Below.refl x2.heap.size x2).alloc (Nat.le_refl _) _) (Nat.le_refl _)); clear z1 z2 z3 z4)
            | ((with_reducible refine guard_load 25 ?_); clear T3; refine wpList_load_st rfl _ rfl HA3.out.se.st rfl ?_)
            | ((with_reducible refine guard_load 28 ?_); refine wpList_load_ev rfl _ rfl HA3.out.se.ev rfl ?_)
            | (go_at_call 15; refine (rjudge_any s e a n cap _ HN.out HA3.out.se.ln hlm).mono ?_; rw [HJ.out]; rintro _ x4 ⟨rfl, hb4⟩; have HA4 : Hid (Ap w s e a n cap x2.heap.size s (.slice a2 n c2) x4) := Ap.keep HA3.out hb4; clear hb4; have s5_8 := HA4.out.se.st.cell 8 (.int .i64 s.events) rfl; have t5 := HA4.out.tb.cell 8 (.int .i64 s.events) rfl; have u5 := HA4.out.tb.froz 8; have HA5 : Hid (Ap w s e a n cap x2.heap.size { s with events := (s.events + 1) } (.slice a2 n c2) (x4.setCell ⟨x2.heap.size, 8, none⟩ (.int .i64 (s.events + 1)))) := Ap.set HA4.out 8 _ rfl rfl; have s6_10 := HA5.out.se.st.cell 10 (.int .i64 s.stamp) rfl; have v6_8 := HA5.out.se.ev.cell 8 (.int .i64 e.stamp) rfl; have v7_7 := HA5.out.se.ev.cell 7 (.string e.who) rfl; have kk := (SE.cs HA5.out.se HK.out).2.2.2.2.2.2.1; have s8_2 := HA5.out.se.st.cell 2 (.int .i64 s.prior) rfl; have t8 := HA5.out.tb.cell 1 (.int .i64 s.status) rfl; have u8 := HA5.out.tb.froz 1; have HA8 : Hid (Ap w s e a n cap x2.heap.size { s with events := (s.events + 1), status := s.prior } (.slice a2 n c2) ((x4.setCell ⟨x2.heap.size, 8, none⟩ (.int .i64 (s.events + 1))).setCell ⟨x2.heap.size, 1, none⟩ (.int .i64 s.prior))) := Ap.set HA5.out 1 _ rfl rfl; have t9 := HA8.out.tb.cell 2 (.int .i64 s.prior) rfl; have u9 := HA8.out.tb.froz 2; have HA9 : Hid (Ap w s e a n cap x2.heap.size { s with events := (s.events + 1), status := s.prior, prior := 0 } (.slice a2 n c2) (((x4.setCell ⟨x2.heap.size, 8, none⟩ (.int .i64 (s.events + 1))).setCell ⟨x2.heap.size, 1, none⟩ (.int .i64 s.prior)).setCell ⟨x2.heap.size, 2, none⟩ (.int .i64 0))) := Ap.set HA8.out 2 _ rfl rfl)
            | ((with_reducible refine guard_load 25 ?_); refine wpList_load_st rfl _ rfl HA9.out.tb rfl ?_)
            | ((with_reducible refine guard_store 25 ?_); refine wpList_store_st (s := zeroS) (s2 := { s with events := (s.events + 1), status := s.prior, prior := 0 }) (a2 := a2) (n2 := n) (c2 := c2) rfl _ _ rfl HA9.out.res rfl rfl ?_; intro x9 z1 z2 z3 z4))
      refine bodyPost_ret (results_st2 rfl _ _ _ _ rfl rfl z1) rfl ⟨a2, n, c2, rfl, ?_⟩
      exact HA9.out.done z2 z3
    | false =>
      have hR : fineS s e = { s with events := (s.events + 1), who := e.who, status := s.prior, prior := 0 } := by simp [fineS, doS, hk, hst, hw]
      rw [hR]
      clear hn hl hR hjj h1 h2 h3 h4 hp hpr hf hk
      go_enter Tryz.func7, Tryz.ntmps7
      go_wp2_with (first
            | ((with_reducible refine guard_load 25 ?_); clear T1; refine wpList_load_st rfl _ rfl HW1.out.1 rfl ?_)
            | (go_at_call 6; refine (scopy_any s a n cap _ HN.out HLW.out hm).mono ?_; rintro _ x2 ⟨v2, rfl, ho2, hb2⟩; obtain ⟨a2, c2, hv2, _, _, hl2, _⟩ := ho2.shape; simp only [HN.out] at hv2; subst hv2; have HX2 : Hid (OwnL x2 W.heap.size (.slice a2 n c2) s.lines ∧ Below W.heap.size W x2) := ⟨ho2, hb2⟩; clear hb2 ho2 hl2)
            | ((with_reducible refine guard_store 25 ?_); clear T2; refine wpList_store_st (s := zeroS) (s2 := s) (a2 := a2) (n2 := n) (c2 := c2) rfl _ _ rfl (StAt.new x2 zeroS (.slice none 0 0)) rfl rfl ?_; intro x3 z1 z2 z3 z4; have HA3 : Hid (Ap w s e a n cap x2.heap.size s (.slice a2 n c2) x3) := Ap.start HW1.out HLW0.out HX2.out.1 HX2.out.2 z1 (z2 _ _ ((Below.refl x2.heap.size x2).alloc (Nat.le_refl _) _) (Nat.le_refl _)); clear z1 z2 z3 z4)
            | ((with_reducible refine guard_load 25 ?_); clear T3; refine wpList_load_st rfl _ rfl HA3.out.se.st rfl ?_)
            | ((with_reducible refine guard_load 28 ?_); refine wpList_load_ev rfl _ rfl HA3.out.se.ev rfl ?_)
            | (go_at_call 15; refine (rjudge_any s e a n cap _ HN.out HA3.out.se.ln hlm).mono ?_; rw [HJ.out]; rintro _ x4 ⟨rfl, hb4⟩; have HA4 : Hid (Ap w s e a n cap x2.heap.size s (.slice a2 n c2) x4) := Ap.keep HA3.out hb4; clear hb4; have s5_8 := HA4.out.se.st.cell 8 (.int .i64 s.events) rfl; have t5 := HA4.out.tb.cell 8 (.int .i64 s.events) rfl; have u5 := HA4.out.tb.froz 8; have HA5 : Hid (Ap w s e a n cap x2.heap.size { s with events := (s.events + 1) } (.slice a2 n c2) (x4.setCell ⟨x2.heap.size, 8, none⟩ (.int .i64 (s.events + 1)))) := Ap.set HA4.out 8 _ rfl rfl; have s6_10 := HA5.out.se.st.cell 10 (.int .i64 s.stamp) rfl; have v6_8 := HA5.out.se.ev.cell 8 (.int .i64 e.stamp) rfl; have v7_7 := HA5.out.se.ev.cell 7 (.string e.who) rfl; have t7 := HA5.out.tb.cell 11 (.string s.who) rfl; have u7 := HA5.out.tb.froz 11; have HA7 : Hid (Ap w s e a n cap x2.heap.size { s with events := (s.events + 1), who := e.who } (.slice a2 n c2) ((x4.setCell ⟨x2.heap.size, 8, none⟩ (.int .i64 (s.events + 1))).setCell ⟨x2.heap.size, 11, none⟩ (.string e.who))) := Ap.set HA5.out 11 _ rfl rfl; have kk := (SE.cs HA7.out.se HK.out).2.2.2.2.2.2.1; have s8_2 := HA7.out.se.st.cell 2 (.int .i64 s.prior) rfl; have t8 := HA7.out.tb.cell 1 (.int .i64 s.status) rfl; have u8 := HA7.out.tb.froz 1; have HA8 : Hid (Ap w s e a n cap x2.heap.size { s with events := (s.events + 1), who := e.who, status := s.prior } (.slice a2 n c2) (((x4.setCell ⟨x2.heap.size, 8, none⟩ (.int .i64 (s.events + 1))).setCell ⟨x2.heap.size, 11, none⟩ (.string e.who)).setCell ⟨x2.heap.size, 1, none⟩ (.int .i64 s.prior))) := Ap.set HA7.out 1 _ rfl rfl; have t9 := HA8.out.tb.cell 2 (.int .i64 s.prior) rfl; have u9 := HA8.out.tb.froz 2; have HA9 : Hid (Ap w s e a n cap x2.heap.size { s with events := (s.events + 1), who := e.who, status := s.prior, prior := 0 } (.slice a2 n c2) ((((x4.setCell ⟨x2.heap.size, 8, none⟩ (.int .i64 (s.events + 1))).setCell ⟨x2.heap.size, 11, none⟩ (.string e.who)).setCell ⟨x2.heap.size, 1, none⟩ (.int .i64 s.prior)).setCell ⟨x2.heap.size, 2, none⟩ (.int .i64 0))) := Ap.set HA8.out 2 _ rfl rfl)
            | ((with_reducible refine guard_load 25 ?_); refine wpList_load_st rfl _ rfl HA9.out.tb rfl ?_)
            | ((with_reducible refine guard_store 25 ?_); refine wpList_store_st (s := zeroS) (s2 := { s with events := (s.events + 1), who := e.who, status := s.prior, prior := 0 }) (a2 := a2) (n2 := n) (c2 := c2) rfl _ _ rfl HA9.out.res rfl rfl ?_; intro x9 z1 z2 z3 z4))
      refine bodyPost_ret (results_st2 rfl _ _ _ _ rfl rfl z1) rfl ⟨a2, n, c2, rfl, ?_⟩
      exact HA9.out.done z2 z3
end Go.Proofs.YtldbdhhbmnbmaaaGreat
