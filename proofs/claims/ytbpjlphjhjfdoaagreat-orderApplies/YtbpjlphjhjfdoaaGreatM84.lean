/- Own texts, joined: Ra10, Rb0, Rb1, Oap. -/
import Derived.Test.YtbpjlphjhjfdoaaGreatM83
import Derived.Test.YtbpjlphjhjfdoaaGreatM27
import Derived.Test.YtbpjlphjhjfdoaaGreatM79
import Derived.Test.YtbpjlphjhjfdoaaGreatM82
import Derived.Test.YtbpjlphjhjfdoaaGreatM34
import Derived.Deep.MidRow
import Derived.Test.YtbpjlphjhjfdoaaGreatM39
namespace Go.Proofs.YtbpjlphjhjfdoaaGreat
open Go.ChangeShapes Go.WideShapes Go.ChangeAt Go.RowKit
set_option linter.unusedVariables false
set_option linter.unusedSimpArgs false
set_option maxRecDepth 20000 in
set_option maxHeartbeats 16000000 in
theorem rapply_10 (s : St) (e : Ev) (a : Option Addr) (n cap : Nat) (w : World) (hn : s.lines.length = n) (hl : Lns w a s.lines) (hm : n * 32 ≤ 140737488351232) (hj : judS s e = 0) (hk : e.kind = 10) :
    Calls Tryz.prog 7 #[.agg (stA s (.slice a n cap)), .agg (evA e)] w fun r w' => ApplyPost (nextS s e) (judS s e) w r w' := by
  obtain ⟨W, hW, h1, h2, h3, h4⟩ := t3_new w s e (.slice a n cap)
  have HN : Hid (s.lines.length = n) := hn
  have hlm : n ≤ maxLen := by unfold maxLen; omega
  have HW1 : Hid (StAt W w.heap.size s (.slice a n cap) ∧ EvAt W (w.heap.size + 1) e ∧ StAt W (w.heap.size + 2) zeroS (.slice none 0 0) ∧ Below w.heap.size w W) := ⟨h1, h2, h3, h4⟩
  have HLW0 : Hid (Lns w a s.lines) := hl
  have HLW : Hid (Lns W a s.lines) := hl.keep h4
  obtain ⟨j, hjj⟩ : ∃ j, judS s e = j := ⟨_, rfl⟩
  have HJ : Hid (judS s e = j) := hjj
  have T1 : Hid True := trivial
  have T2 : Hid True := trivial
  have T3 : Hid True := trivial
  have hf : nextS s e = fineS s e := by unfold nextS; rw [if_neg (by rw [hj]; decide), if_pos hj]
  have hp := vl_of (jud_parts (s := s) (e := e) (by rw [hj]; decide)).1
  have he1 := hp.e1
  have he2 := hp.e2
  have hpr := right_of (jud_parts (s := s) (e := e) (by rw [hj]; decide)).2.1
  have pp0 : 0 ≤ e.price := hpr.price0
  have pp1 : e.price ≤ 1000000000000000 := by have := hpr.price1; have h5 : hiP 5 ≤ 1000000000000000 := (by decide); omega
  have pd0 : 0 ≤ s.refunded := hp.f1
  have pd1 : s.refunded ≤ s.paid := hp.f2
  have pd2 : s.paid ≤ 240000000000000 := by have := hp.p2; have := (vld_due (vl_to hp)).2.2.2.2.2.2.2; omega
  have tx0 := hp.t1
  have tx1 := hp.t2
  rw [hjj] at hj
  subst hj
  rw [hf, hjj]
  have HK : Hid (e.kind = 10) := hk
  have hLB := (vl_of (jud_parts (s := s) (e := e) (by rw [hjj]; decide)).1).lines
  have HLBB : Hid (linesB s.lines = true) := hLB
  have h16 : n ≤ 16 := by have := (linesB_from hLB).1; omega
  have HRI : Hid (linesFrom (-1) s.lines = true) := (linesB_from hLB).2
  have qq0 : 0 ≤ e.qty := by have := hpr.qty0; simpa [loQ] using this
  have qq1 : e.qty ≤ 10000 := hpr.qty1
  have hrf : refR s e = 0 := by
    have h7 := (jud_rest (s := s) (e := e) (by rw [hjj]; decide) (by rw [hjj]; decide)).2
    rw [hjj] at h7
    split at h7
    · rename_i h8; exact absurd h7.symm h8
    · exact h7.symm
  clear hrf hLB
  by_cases hst : s.stamp < e.stamp
  · have gst : decide (s.stamp < e.stamp) = true := by simpa using hst
    cases hw : e.who.toList == [] with
    | true =>
      have hR : fineS s e = { s with events := (s.events + 1), stamp := e.stamp, lines := clrL s.lines, status := 4 } := by simp [fineS, doS, hk, hst, hw]
      rw [hR]
      clear hn hl hR hjj h1 h2 h3 h4 hp hpr hf hk
      go_enter Tryz.func7, Tryz.ntmps7
      go_wp2_with (first
            | ((with_reducible refine guard_load 25 ?_); clear T1; refine wpList_load_st rfl _ rfl HW1.out.1 rfl ?_)
            | (go_at_call 6; refine (scopy_any s a n cap _ HN.out HLW.out hm).mono ?_; rintro _ x2 ⟨v2, rfl, ho2, hb2⟩; obtain ⟨a2, c2, hv2, _, _, hl2, _⟩ := ho2.shape; simp only [HN.out] at hv2; subst hv2; have HX2 : Hid (OwnL x2 W.heap.size (.slice a2 n c2) s.lines ∧ Below W.heap.size W x2) := ⟨ho2, hb2⟩; clear hb2 ho2 hl2)
            | ((with_reducible refine guard_store 25 ?_); clear T2; refine wpList_store_st (s := zeroS) (s2 := s) (a2 := a2) (n2 := n) (c2 := c2) rfl _ _ rfl (StAt.new x2 zeroS (.slice none 0 0)) rfl rfl ?_; intro x3 z1 z2 z3 z4; have HA3 : Hid (Ap w s e a n cap x2.heap.size s (.slice a2 n c2) x3) := Ap.start HW1.out HLW0.out HX2.out.1 HX2.out.2 z1 (z2 _ _ ((Below.refl x2.heap.size x2).alloc (Nat.le_refl _) _) (Nat.le_refl _)); clear z1 z2 z3 z4)
            | ((with_reducible refine guard_load 25 ?_); clear T3; refine wpList_load_st rfl _ rfl HA3.out.se.st rfl ?_)
            | ((with_reducible refine guard_load 28 ?_); refine wpList_load_ev rfl _ rfl HA3.out.se.ev rfl ?_)
            | (go_at_call 15; refine (rjudge_any s e a n cap _ HN.out HA3.out.se.ln hlm).mono ?_; rw [HJ.out]; rintro _ x4 ⟨rfl, hb4⟩; have HA4 : Hid (Ap w s e a n cap x2.heap.size s (.slice a2 n c2) x4) := Ap.keep HA3.out hb4; clear hb4; have s5_8 := HA4.out.se.st.cell 8 (.int .i64 s.events) rfl; have t5 := HA4.out.tb.cell 8 (.int .i64 s.events) rfl; have u5 := HA4.out.tb.froz 8; have HA5 : Hid (Ap w s e a n cap x2.heap.size { s with events := (s.events + 1) } (.slice a2 n c2) (x4.setCell ⟨x2.heap.size, 8, none⟩ (.int .i64 (s.events + 1)))) := Ap.set HA4.out 8 _ rfl rfl; have s6_10 := HA5.out.se.st.cell 10 (.int .i64 s.stamp) rfl; have v6_8 := HA5.out.se.ev.cell 8 (.int .i64 e.stamp) rfl; have t6 := HA5.out.tb.cell 10 (.int .i64 s.stamp) rfl; have u6 := HA5.out.tb.froz 10; have HA6 : Hid (Ap w s e a n cap x2.heap.size { s with events := (s.events + 1), stamp := e.stamp } (.slice a2 n c2) ((x4.setCell ⟨x2.heap.size, 8, none⟩ (.int .i64 (s.events + 1))).setCell ⟨x2.heap.size, 10, none⟩ (.int .i64 e.stamp))) := Ap.set HA5.out 10 _ rfl rfl; have v7_7 := HA6.out.se.ev.cell 7 (.string e.who) rfl; have kk := (SE.cs HA6.out.se HK.out).2.2.2.2.2.2.1; have hc5 := HA6.out.tb.cell 5 (.slice a2 n c2) rfl))
      go_loopw [114] (fun vi wr => ∃ (k : Nat), k ≤ n ∧ vi = .int .i64 k ∧ Hid (Ap w s e a n cap x2.heap.size { s with events := (s.events + 1), stamp := e.stamp, lines := clrL (s.lines.take k) ++ s.lines.drop k } (.slice a2 n c2) wr)) (fun vi _ => n - (intOf vi).toNat)
      case atStart => exact ⟨0, Nat.zero_le _, rfl, HA6.out⟩
      case round =>
        obtain ⟨k, hk, rfl, HI⟩ := hrel
        by_cases hkn : k < n
        · obtain ⟨p, hp⟩ := ln_get (L := s.lines) (k := k) (by rw [HN.out]; exact hkn)
          have hat := clr_at hp
          have hstep := clr_step hp
          obtain ⟨g, rfl, _⟩ := HI.out.row.block hat
          have HT : Hid (Ap w s e a n cap x2.heap.size { s with events := (s.events + 1), stamp := e.stamp, lines := clrL (s.lines.take (k + 1)) ++ s.lines.drop (k + 1) } (.slice (some ⟨g, 0, none⟩) n c2) (wr.drew.setCell ⟨g, k * 4 + 3, none⟩ (.int .i64 p.qty))) := by
            have h := (HI.out.keep (Below.refl _ _).drew).turn k 3 p p.qty hat (by omega)
            simp only [hstep] at h
            exact h
          have q5 := HI.out.tb.cell 5 (.slice (some ⟨g, 0, none⟩) n c2) rfl
          obtain ⟨m0, m1, m2, m3⟩ := HI.out.row.cells hat
          have mf := frozen_own HI.out.row (k * 4 + 3)
          clear hp hat hstep
          go_wp2
          go_region
          all_goals
            go_wp2
            go_roundw
            case rel => exact ⟨k + 1, by omega, by go_num, HT.out⟩
            case measure => simp [intOf]; omega
        · have hlc : clrL (s.lines.take k) ++ s.lines.drop k = clrL s.lines := by rw [List.take_of_length_le (by rw [HN.out]; omega), List.drop_eq_nil_of_le (by rw [HN.out]; omega), List.append_nil]
          simp only [hlc] at HI
          have q1 := HI.out.tb.cell 1 (.int .i64 s.status) rfl
          have q2 := HI.out.tb.froz 1
          have HY : Hid (Ap w s e a n cap x2.heap.size { s with events := (s.events + 1), stamp := e.stamp, lines := clrL s.lines, status := 4 } (.slice a2 n c2) (wr.setCell ⟨x2.heap.size, 1, none⟩ (.int .i64 4))) := Ap.set HI.out 1 _ rfl rfl
          clear hlc
          go_wp2_with (first
                | ((with_reducible refine guard_load 25 ?_); refine wpList_load_st rfl _ rfl HY.out.tb rfl ?_)
                | ((with_reducible refine guard_store 25 ?_); refine wpList_store_st (s := zeroS) (s2 := { s with events := (s.events + 1), stamp := e.stamp, lines := clrL s.lines, status := 4 }) (a2 := a2) (n2 := n) (c2 := c2) rfl _ _ rfl HY.out.res rfl rfl ?_; intro x9 z1 z2 z3 z4))
          refine bodyPost_ret (results_st2 rfl _ _ _ _ rfl rfl z1) rfl ⟨a2, n, c2, rfl, ?_⟩
          exact HY.out.done z2 z3
    | false =>
      have hR : fineS s e = { s with events := (s.events + 1), stamp := e.stamp, who := e.who, lines := clrL s.lines, status := 4 } := by simp [fineS, doS, hk, hst, hw]
      rw [hR]
      clear hn hl hR hjj h1 h2 h3 h4 hp hpr hf hk
      go_enter Tryz.func7, Tryz.ntmps7
      go_wp2_with (first
            | ((with_reducible refine guard_load 25 ?_); clear T1; refine wpList_load_st rfl _ rfl HW1.out.1 rfl ?_)
            | (go_at_call 6; refine (scopy_any s a n cap _ HN.out HLW.out hm).mono ?_; rintro _ x2 ⟨v2, rfl, ho2, hb2⟩; obtain ⟨a2, c2, hv2, _, _, hl2, _⟩ := ho2.shape; simp only [HN.out] at hv2; subst hv2; have HX2 : Hid (OwnL x2 W.heap.size (.slice a2 n c2) s.lines ∧ Below W.heap.size W x2) := ⟨ho2, hb2⟩; clear hb2 ho2 hl2)
            | ((with_reducible refine guard_store 25 ?_); clear T2; refine wpList_store_st (s := zeroS) (s2 := s) (a2 := a2) (n2 := n) (c2 := c2) rfl _ _ rfl (StAt.new x2 zeroS (.slice none 0 0)) rfl rfl ?_; intro x3 z1 z2 z3 z4; have HA3 : Hid (Ap w s e a n cap x2.heap.size s (.slice a2 n c2) x3) := Ap.start HW1.out HLW0.out HX2.out.1 HX2.out.2 z1 (z2 _ _ ((Below.refl x2.heap.size x2).alloc (Nat.le_refl _) _) (Nat.le_refl _)); clear z1 z2 z3 z4)
            | ((with_reducible refine guard_load 25 ?_); clear T3; refine wpList_load_st rfl _ rfl HA3.out.se.st rfl ?_)
            | ((with_reducible refine guard_load 28 ?_); refine wpList_load_ev rfl _ rfl HA3.out.se.ev rfl ?_)
            | (go_at_call 15; refine (rjudge_any s e a n cap _ HN.out HA3.out.se.ln hlm).mono ?_; rw [HJ.out]; rintro _ x4 ⟨rfl, hb4⟩; have HA4 : Hid (Ap w s e a n cap x2.heap.size s (.slice a2 n c2) x4) := Ap.keep HA3.out hb4; clear hb4; have s5_8 := HA4.out.se.st.cell 8 (.int .i64 s.events) rfl; have t5 := HA4.out.tb.cell 8 (.int .i64 s.events) rfl; have u5 := HA4.out.tb.froz 8; have HA5 : Hid (Ap w s e a n cap x2.heap.size { s with events := (s.events + 1) } (.slice a2 n c2) (x4.setCell ⟨x2.heap.size, 8, none⟩ (.int .i64 (s.events + 1)))) := Ap.set HA4.out 8 _ rfl rfl; have s6_10 := HA5.out.se.st.cell 10 (.int .i64 s.stamp) rfl; have v6_8 := HA5.out.se.ev.cell 8 (.int .i64 e.stamp) rfl; have t6 := HA5.out.tb.cell 10 (.int .i64 s.stamp) rfl; have u6 := HA5.out.tb.froz 10; have HA6 : Hid (Ap w s e a n cap x2.heap.size { s with events := (s.events + 1), stamp := e.stamp } (.slice a2 n c2) ((x4.setCell ⟨x2.heap.size, 8, none⟩ (.int .i64 (s.events + 1))).setCell ⟨x2.heap.size, 10, none⟩ (.int .i64 e.stamp))) := Ap.set HA5.out 10 _ rfl rfl; have v7_7 := HA6.out.se.ev.cell 7 (.string e.who) rfl; have t7 := HA6.out.tb.cell 11 (.string s.who) rfl; have u7 := HA6.out.tb.froz 11; have HA7 : Hid (Ap w s e a n cap x2.heap.size { s with events := (s.events + 1), stamp := e.stamp, who := e.who } (.slice a2 n c2) (((x4.setCell ⟨x2.heap.size, 8, none⟩ (.int .i64 (s.events + 1))).setCell ⟨x2.heap.size, 10, none⟩ (.int .i64 e.stamp)).setCell ⟨x2.heap.size, 11, none⟩ (.string e.who))) := Ap.set HA6.out 11 _ rfl rfl; have kk := (SE.cs HA7.out.se HK.out).2.2.2.2.2.2.1; have hc5 := HA7.out.tb.cell 5 (.slice a2 n c2) rfl))
      go_loopw [114] (fun vi wr => ∃ (k : Nat), k ≤ n ∧ vi = .int .i64 k ∧ Hid (Ap w s e a n cap x2.heap.size { s with events := (s.events + 1), stamp := e.stamp, who := e.who, lines := clrL (s.lines.take k) ++ s.lines.drop k } (.slice a2 n c2) wr)) (fun vi _ => n - (intOf vi).toNat)
      case atStart => exact ⟨0, Nat.zero_le _, rfl, HA7.out⟩
      case round =>
        obtain ⟨k, hk, rfl, HI⟩ := hrel
        by_cases hkn : k < n
        · obtain ⟨p, hp⟩ := ln_get (L := s.lines) (k := k) (by rw [HN.out]; exact hkn)
          have hat := clr_at hp
          have hstep := clr_step hp
          obtain ⟨g, rfl, _⟩ := HI.out.row.block hat
          have HT : Hid (Ap w s e a n cap x2.heap.size { s with events := (s.events + 1), stamp := e.stamp, who := e.who, lines := clrL (s.lines.take (k + 1)) ++ s.lines.drop (k + 1) } (.slice (some ⟨g, 0, none⟩) n c2) (wr.drew.setCell ⟨g, k * 4 + 3, none⟩ (.int .i64 p.qty))) := by
            have h := (HI.out.keep (Below.refl _ _).drew).turn k 3 p p.qty hat (by omega)
            simp only [hstep] at h
            exact h
          have q5 := HI.out.tb.cell 5 (.slice (some ⟨g, 0, none⟩) n c2) rfl
          obtain ⟨m0, m1, m2, m3⟩ := HI.out.row.cells hat
          have mf := frozen_own HI.out.row (k * 4 + 3)
          clear hp hat hstep
          go_wp2
          go_region
          all_goals
            go_wp2
            go_roundw
            case rel => exact ⟨k + 1, by omega, by go_num, HT.out⟩
            case measure => simp [intOf]; omega
        · have hlc : clrL (s.lines.take k) ++ s.lines.drop k = clrL s.lines := by rw [List.take_of_length_le (by rw [HN.out]; omega), List.drop_eq_nil_of_le (by rw [HN.out]; omega), List.append_nil]
          simp only [hlc] at HI
          have q1 := HI.out.tb.cell 1 (.int .i64 s.status) rfl
          have q2 := HI.out.tb.froz 1
          have HY : Hid (Ap w s e a n cap x2.heap.size { s with events := (s.events + 1), stamp := e.stamp, who := e.who, lines := clrL s.lines, status := 4 } (.slice a2 n c2) (wr.setCell ⟨x2.heap.size, 1, none⟩ (.int .i64 4))) := Ap.set HI.out 1 _ rfl rfl
          clear hlc
          go_wp2_with (first
                | ((with_reducible refine guard_load 25 ?_); refine wpList_load_st rfl _ rfl HY.out.tb rfl ?_)
                | ((with_reducible refine guard_store 25 ?_); refine wpList_store_st (s := zeroS) (s2 := { s with events := (s.events + 1), stamp := e.stamp, who := e.who, lines := clrL s.lines, status := 4 }) (a2 := a2) (n2 := n) (c2 := c2) rfl _ _ rfl HY.out.res rfl rfl ?_; intro x9 z1 z2 z3 z4))
          refine bodyPost_ret (results_st2 rfl _ _ _ _ rfl rfl z1) rfl ⟨a2, n, c2, rfl, ?_⟩
          exact HY.out.done z2 z3
  · have gst : decide (s.stamp < e.stamp) = false := by simpa using hst
    cases hw : e.who.toList == [] with
    | true =>
      have hR : fineS s e = { s with events := (s.events + 1), lines := clrL s.lines, status := 4 } := by simp [fineS, doS, hk, hst, hw]
      rw [hR]
      clear hn hl hR hjj h1 h2 h3 h4 hp hpr hf hk
      go_enter Tryz.func7, Tryz.ntmps7
      go_wp2_with (first
            | ((with_reducible refine guard_load 25 ?_); clear T1; refine wpList_load_st rfl _ rfl HW1.out.1 rfl ?_)
            | (go_at_call 6; refine (scopy_any s a n cap _ HN.out HLW.out hm).mono ?_; rintro _ x2 ⟨v2, rfl, ho2, hb2⟩; obtain ⟨a2, c2, hv2, _, _, hl2, _⟩ := ho2.shape; simp only [HN.out] at hv2; subst hv2; have HX2 : Hid (OwnL x2 W.heap.size (.slice a2 n c2) s.lines ∧ Below W.heap.size W x2) := ⟨ho2, hb2⟩; clear hb2 ho2 hl2)
            | ((with_reducible refine guard_store 25 ?_); clear T2; refine wpList_store_st (s := zeroS) (s2 := s) (a2 := a2) (n2 := n) (c2 := c2) rfl _ _ rfl (StAt.new x2 zeroS (.slice none 0 0)) rfl rfl ?_; intro x3 z1 z2 z3 z4; have HA3 : Hid (Ap w s e a n cap x2.heap.size s (.slice a2 n c2) x3) := Ap.start HW1.out HLW0.out HX2.out.1 HX2.out.2 z1 (z2 _ _ ((Below.refl x2.heap.size x2).alloc (Nat.le_refl _) _) (Nat.le_refl _)); clear z1 z2 z3 z4)
            | ((with_reducible refine guard_load 25 ?_); clear T3; refine wpList_load_st rfl _ rfl HA3.out.se.st rfl ?_)
            | ((with_reducible refine guard_load 28 ?_); refine wpList_load_ev rfl _ rfl HA3.out.se.ev rfl ?_)
            | (go_at_call 15; refine (rjudge_any s e a n cap _ HN.out HA3.out.se.ln hlm).mono ?_; rw [HJ.out]; rintro _ x4 ⟨rfl, hb4⟩; have HA4 : Hid (Ap w s e a n cap x2.heap.size s (.slice a2 n c2) x4) := Ap.keep HA3.out hb4; clear hb4; have s5_8 := HA4.out.se.st.cell 8 (.int .i64 s.events) rfl; have t5 := HA4.out.tb.cell 8 (.int .i64 s.events) rfl; have u5 := HA4.out.tb.froz 8; have HA5 : Hid (Ap w s e a n cap x2.heap.size { s with events := (s.events + 1) } (.slice a2 n c2) (x4.setCell ⟨x2.heap.size, 8, none⟩ (.int .i64 (s.events + 1)))) := Ap.set HA4.out 8 _ rfl rfl; have s6_10 := HA5.out.se.st.cell 10 (.int .i64 s.stamp) rfl; have v6_8 := HA5.out.se.ev.cell 8 (.int .i64 e.stamp) rfl; have v7_7 := HA5.out.se.ev.cell 7 (.string e.who) rfl; have kk := (SE.cs HA5.out.se HK.out).2.2.2.2.2.2.1; have hc5 := HA5.out.tb.cell 5 (.slice a2 n c2) rfl))
      go_loopw [114] (fun vi wr => ∃ (k : Nat), k ≤ n ∧ vi = .int .i64 k ∧ Hid (Ap w s e a n cap x2.heap.size { s with events := (s.events + 1), lines := clrL (s.lines.take k) ++ s.lines.drop k } (.slice a2 n c2) wr)) (fun vi _ => n - (intOf vi).toNat)
      case atStart => exact ⟨0, Nat.zero_le _, rfl, HA5.out⟩
      case round =>
        obtain ⟨k, hk, rfl, HI⟩ := hrel
        by_cases hkn : k < n
        · obtain ⟨p, hp⟩ := ln_get (L := s.lines) (k := k) (by rw [HN.out]; exact hkn)
          have hat := clr_at hp
          have hstep := clr_step hp
          obtain ⟨g, rfl, _⟩ := HI.out.row.block hat
          have HT : Hid (Ap w s e a n cap x2.heap.size { s with events := (s.events + 1), lines := clrL (s.lines.take (k + 1)) ++ s.lines.drop (k + 1) } (.slice (some ⟨g, 0, none⟩) n c2) (wr.drew.setCell ⟨g, k * 4 + 3, none⟩ (.int .i64 p.qty))) := by
            have h := (HI.out.keep (Below.refl _ _).drew).turn k 3 p p.qty hat (by omega)
            simp only [hstep] at h
            exact h
          have q5 := HI.out.tb.cell 5 (.slice (some ⟨g, 0, none⟩) n c2) rfl
          obtain ⟨m0, m1, m2, m3⟩ := HI.out.row.cells hat
          have mf := frozen_own HI.out.row (k * 4 + 3)
          clear hp hat hstep
          go_wp2
          go_region
          all_goals
            go_wp2
            go_roundw
            case rel => exact ⟨k + 1, by omega, by go_num, HT.out⟩
            case measure => simp [intOf]; omega
        · have hlc : clrL (s.lines.take k) ++ s.lines.drop k = clrL s.lines := by rw [List.take_of_length_le (by rw [HN.out]; omega), List.drop_eq_nil_of_le (by rw [HN.out]; omega), List.append_nil]
          simp only [hlc] at HI
          have q1 := HI.out.tb.cell 1 (.int .i64 s.status) rfl
          have q2 := HI.out.tb.froz 1
          have HY : Hid (Ap w s e a n cap x2.heap.size { s with events := (s.events + 1), lines := clrL s.lines, status := 4 } (.slice a2 n c2) (wr.setCell ⟨x2.heap.size, 1, none⟩ (.int .i64 4))) := Ap.set HI.out 1 _ rfl rfl
          clear hlc
          go_wp2_with (first
                | ((with_reducible refine guard_load 25 ?_); refine wpList_load_st rfl _ rfl HY.out.tb rfl ?_)
                | ((with_reducible refine guard_store 25 ?_); refine wpList_store_st (s := zeroS) (s2 := { s with events := (s.events + 1), lines := clrL s.lines, status := 4 }) (a2 := a2) (n2 := n) (c2 := c2) rfl _ _ rfl HY.out.res rfl rfl ?_; intro x9 z1 z2 z3 z4))
          refine bodyPost_ret (results_st2 rfl _ _ _ _ rfl rfl z1) rfl ⟨a2, n, c2, rfl, ?_⟩
          exact HY.out.done z2 z3
    | false =>
      have hR : fineS s e = { s with events := (s.events + 1), who := e.who, lines := clrL s.lines, status := 4 } := by simp [fineS, doS, hk, hst, hw]
      rw [hR]
      clear hn hl hR hjj h1 h2 h3 h4 hp hpr hf hk
      go_enter Tryz.func7, Tryz.ntmps7
      go_wp2_with (first
            | ((with_reducible refine guard_load 25 ?_); clear T1; refine wpList_load_st rfl _ rfl HW1.out.1 rfl ?_)
            | (go_at_call 6; refine (scopy_any s a n cap _ HN.out HLW.out hm).mono ?_; rintro _ x2 ⟨v2, rfl, ho2, hb2⟩; obtain ⟨a2, c2, hv2, _, _, hl2, _⟩ := ho2.shape; simp only [HN.out] at hv2; subst hv2; have HX2 : Hid (OwnL x2 W.heap.size (.slice a2 n c2) s.lines ∧ Below W.heap.size W x2) := ⟨ho2, hb2⟩; clear hb2 ho2 hl2)
            | ((with_reducible refine guard_store 25 ?_); clear T2; refine wpList_store_st (s := zeroS) (s2 := s) (a2 := a2) (n2 := n) (c2 := c2) rfl _ _ rfl (StAt.new x2 zeroS (.slice none 0 0)) rfl rfl ?_; intro x3 z1 z2 z3 z4; have HA3 : Hid (Ap w s e a n cap x2.heap.size s (.slice a2 n c2) x3) := Ap.start HW1.out HLW0.out HX2.out.1 HX2.out.2 z1 (z2 _ _ ((Below.refl x2.heap.size x2).alloc (Nat.le_refl _) _) (Nat.le_refl _)); clear z1 z2 z3 z4)
            | ((with_reducible refine guard_load 25 ?_); clear T3; refine wpList_load_st rfl _ rfl HA3.out.se.st rfl ?_)
            | ((with_reducible refine guard_load 28 ?_); refine wpList_load_ev rfl _ rfl HA3.out.se.ev rfl ?_)
            | (go_at_call 15; refine (rjudge_any s e a n cap _ HN.out HA3.out.se.ln hlm).mono ?_; rw [HJ.out]; rintro _ x4 ⟨rfl, hb4⟩; have HA4 : Hid (Ap w s e a n cap x2.heap.size s (.slice a2 n c2) x4) := Ap.keep HA3.out hb4; clear hb4; have s5_8 := HA4.out.se.st.cell 8 (.int .i64 s.events) rfl; have t5 := HA4.out.tb.cell 8 (.int .i64 s.events) rfl; have u5 := HA4.out.tb.froz 8; have HA5 : Hid (Ap w s e a n cap x2.heap.size { s with events := (s.events + 1) } (.slice a2 n c2) (x4.setCell ⟨x2.heap.size, 8, none⟩ (.int .i64 (s.events + 1)))) := Ap.set HA4.out 8 _ rfl rfl; have s6_10 := HA5.out.se.st.cell 10 (.int .i64 s.stamp) rfl; have v6_8 := HA5.out.se.ev.cell 8 (.int .i64 e.stamp) rfl; have v7_7 := HA5.out.se.ev.cell 7 (.string e.who) rfl; have t7 := HA5.out.tb.cell 11 (.string s.who) rfl; have u7 := HA5.out.tb.froz 11; have HA7 : Hid (Ap w s e a n cap x2.heap.size { s with events := (s.events + 1), who := e.who } (.slice a2 n c2) ((x4.setCell ⟨x2.heap.size, 8, none⟩ (.int .i64 (s.events + 1))).setCell ⟨x2.heap.size, 11, none⟩ (.string e.who))) := Ap.set HA5.out 11 _ rfl rfl; have kk := (SE.cs HA7.out.se HK.out).2.2.2.2.2.2.1; have hc5 := HA7.out.tb.cell 5 (.slice a2 n c2) rfl))
      go_loopw [114] (fun vi wr => ∃ (k : Nat), k ≤ n ∧ vi = .int .i64 k ∧ Hid (Ap w s e a n cap x2.heap.size { s with events := (s.events + 1), who := e.who, lines := clrL (s.lines.take k) ++ s.lines.drop k } (.slice a2 n c2) wr)) (fun vi _ => n - (intOf vi).toNat)
      case atStart => exact ⟨0, Nat.zero_le _, rfl, HA7.out⟩
      case round =>
        obtain ⟨k, hk, rfl, HI⟩ := hrel
        by_cases hkn : k < n
        · obtain ⟨p, hp⟩ := ln_get (L := s.lines) (k := k) (by rw [HN.out]; exact hkn)
          have hat := clr_at hp
          have hstep := clr_step hp
          obtain ⟨g, rfl, _⟩ := HI.out.row.block hat
          have HT : Hid (Ap w s e a n cap x2.heap.size { s with events := (s.events + 1), who := e.who, lines := clrL (s.lines.take (k + 1)) ++ s.lines.drop (k + 1) } (.slice (some ⟨g, 0, none⟩) n c2) (wr.drew.setCell ⟨g, k * 4 + 3, none⟩ (.int .i64 p.qty))) := by
            have h := (HI.out.keep (Below.refl _ _).drew).turn k 3 p p.qty hat (by omega)
            simp only [hstep] at h
            exact h
          have q5 := HI.out.tb.cell 5 (.slice (some ⟨g, 0, none⟩) n c2) rfl
          obtain ⟨m0, m1, m2, m3⟩ := HI.out.row.cells hat
          have mf := frozen_own HI.out.row (k * 4 + 3)
          clear hp hat hstep
          go_wp2
          go_region
          all_goals
            go_wp2
            go_roundw
            case rel => exact ⟨k + 1, by omega, by go_num, HT.out⟩
            case measure => simp [intOf]; omega
        · have hlc : clrL (s.lines.take k) ++ s.lines.drop k = clrL s.lines := by rw [List.take_of_length_le (by rw [HN.out]; omega), List.drop_eq_nil_of_le (by rw [HN.out]; omega), List.append_nil]
          simp only [hlc] at HI
          have q1 := HI.out.tb.cell 1 (.int .i64 s.status) rfl
          have q2 := HI.out.tb.froz 1
          have HY : Hid (Ap w s e a n cap x2.heap.size { s with events := (s.events + 1), who := e.who, lines := clrL s.lines, status := 4 } (.slice a2 n c2) (wr.setCell ⟨x2.heap.size, 1, none⟩ (.int .i64 4))) := Ap.set HI.out 1 _ rfl rfl
          clear hlc
          go_wp2_with (first
                | ((with_reducible refine guard_load 25 ?_); refine wpList_load_st rfl _ rfl HY.out.tb rfl ?_)
                | ((with_reducible refine guard_store 25 ?_); refine wpList_store_st (s := zeroS) (s2 := { s with events := (s.events + 1), who := e.who, lines := clrL s.lines, status := 4 }) (a2 := a2) (n2 := n) (c2 := c2) rfl _ _ rfl HY.out.res rfl rfl ?_; intro x9 z1 z2 z3 z4))
          refine bodyPost_ret (results_st2 rfl _ _ _ _ rfl rfl z1) rfl ⟨a2, n, c2, rfl, ?_⟩
          exact HY.out.done z2 z3
end Go.Proofs.YtbpjlphjhjfdoaaGreat
namespace Go.Proofs.YtbpjlphjhjfdoaaGreat
open Go.ChangeShapes Go.WideShapes Go.ChangeAt Go.RowKit
set_option linter.unusedVariables false
theorem rapply_any (s : St) (e : Ev) (a : Option Addr) (n cap : Nat) (w : World) (hn : s.lines.length = n) (hl : Lns w a s.lines) (hm : n * 32 ≤ 140737488351232) :
    Calls Tryz.prog 7 #[.agg (stA s (.slice a n cap)), .agg (evA e)] w fun r w' => ApplyPost (nextS s e) (judS s e) w r w' := by
  by_cases h12 : judS s e = 1 ∨ judS s e = 2
  · exact rapply_broken s e a n cap w hn hl hm h12
  by_cases h0 : judS s e = 0
  · have hr := right_of (jud_parts (s := s) (e := e) (by rw [h0]; decide)).2.1
    have h1 := hr.kind0
    have h2 := hr.kind1
    have h : e.kind = 1 ∨ e.kind = 2 ∨ e.kind = 3 ∨ e.kind = 4 ∨ e.kind = 5 ∨ e.kind = 6 ∨ e.kind = 7 ∨ e.kind = 8 ∨ e.kind = 9 ∨ e.kind = 10 := by
      have h5 : lastK 5 = 10 := rfl
      omega
    rcases h with h | h | h | h | h | h | h | h | h | h
    · exact rapply_1 s e a n cap w hn hl hm h0 h
    · exact rapply_2 s e a n cap w hn hl hm h0 h
    · exact rapply_3 s e a n cap w hn hl hm h0 h
    · exact rapply_4 s e a n cap w hn hl hm h0 h
    · exact rapply_5 s e a n cap w hn hl hm h0 h
    · exact rapply_6 s e a n cap w hn hl hm h0 h
    · exact rapply_7 s e a n cap w hn hl hm h0 h
    · exact rapply_8 s e a n cap w hn hl hm h0 h
    · exact rapply_9 s e a n cap w hn hl hm h0 h
    · exact rapply_10 s e a n cap w hn hl hm h0 h
  · exact rapply_refused s e a n cap w hn hl hm (fun h => h12 (.inl h)) (fun h => h12 (.inr h)) h0
end Go.Proofs.YtbpjlphjhjfdoaaGreat
namespace Go.Proofs.YtbpjlphjhjfdoaaGreat
open Go.ChangeShapes Go.WideShapes Go.ChangeAt Go.RowKit
set_option linter.unusedVariables false
set_option linter.unusedSimpArgs false
theorem next_brokenR {s : St} {e : Ev} (h : vldB s = false) : nextS s e = s := by
  have h1 : judS s e = 1 := by unfold judS; rw [if_pos (.inl h)]
  unfold nextS
  rw [if_pos (.inl h1)]
theorem fold_brokenR {s : St} (h : vldB s = false) : ∀ es : List Ev, foldS s es = s
  | [] => rfl
  | e :: r => by
    show foldS (nextS s e) r = s
    rw [next_brokenR h]
    exact fold_brokenR h r
theorem fold_lenR (s : St) (es : List Ev) (n : Nat) (hn : s.lines.length = n) (hm : n * 32 ≤ 140737488351232) : (foldS s es).lines.length * 32 ≤ 140737488351232 := by
  cases hv : vldB s with
  | false => rw [fold_brokenR hv, hn]; exact hm
  | true => have := (linesB_from (vl_of (fold_valid s es hv)).lines).1; omega
theorem exec_load_evm {o : Oper} {a : Act} {w : World} (x : Operand) (ho : o.op = .load 28 x) {b off : Nat} {e : Ev} (hx : a.eval x = .pointer (some ⟨b, off, none⟩)) (hL : w.rangeAt b off (evA e).toList) : (execOp a.eval o).run Tryz.prog w = .ok (.value (.agg (evA e))) w := by
  unfold execOp
  simp only [ho, hx, Sem.run_bind, Sem.run_pure, Result.andThen_ok, run_loadAt_mid w b off 28 (evA e).toList _ hL Tryz.underlying28 rfl Tryz.infoEv]
theorem evs_range {w : World} {b off : Nat} {es : List Ev} {k : Nat} {e : Ev} (h : EvsIn w (some ⟨b, off, none⟩) es) (he : es[k]? = some e) : w.rangeAt b (off + k * 10) (evA e).toList := by
  rcases h with rfl | ⟨b2, off2, h1, h2, h3⟩
  · simp at he
  · cases h1
    intro j v hj
    exact h3 k e he j v (by simpa using hj)
structure Rfo (w : World) (B : Nat) (t : St) (v : Value) (x : World) : Prop where
  tb : StAt x B t v
  res : StAt x (w.heap.size + 1) zeroS (.slice none 0 0)
  row : OwnL x w.heap.size v t.lines
  bel : Below w.heap.size w x
  lo : w.heap.size + 2 ≤ B
theorem Rfo.keep {w x y : World} {B : Nat} {t : St} {v : Value} (h : Rfo w B t v x) (hb : Below x.heap.size x y) : Rfo w B t v y := ⟨h.tb.after hb, h.res.after hb, h.row.keep hb, below_next h.bel hb, h.lo⟩
theorem Rfo.next {w x y z : World} {B : Nat} {t t2 : St} {v v2 : Value} (h : Rfo w B t v x) (hb : Below x.heap.size x y) (ho : OwnL y x.heap.size v2 t2.lines) (z1 : StAt z B t2 v2) (z2 : ∀ B2 a, Below B2 a y → B2 ≤ B → Below B2 a z) (z3 : ∀ k, k ≠ B → z.heap[k]? = y.heap[k]?) : Rfo w B t2 v2 z := by
  have hk := h.keep hb
  have hlo := h.lo
  refine ⟨z1, (z3 _ (by omega)).trans hk.res, ?_, z2 _ _ hk.bel (by omega), h.lo⟩
  have ho2 : OwnL y w.heap.size v2 t2.lines := ho.mono h.bel.size
  exact ho2.keepOther (fun g hg => z3 g (fun hh => by subst hh; exact own_st_ne ho2 hk.tb hg.symm))
set_option maxRecDepth 20000 in
set_option maxHeartbeats 8000000 in
theorem rfold_any (s : St) (es : List Ev) (a ea : Option Addr) (n cap m ecap : Nat) (w : World) (hn : s.lines.length = n) (hl : Lns w a s.lines) (hm : n * 32 ≤ 140737488351232) (hme : es.length = m) (hes : EvsIn w ea es) (hmm : m ≤ maxLen) :
    Calls Tryz.prog 11 #[.agg (stA s (.slice a n cap)), .slice ea m ecap] w fun r w' => ∃ a' n' c', r = .returned (.agg (stA (foldS s es) (.slice a' n' c'))) ∧ OwnL w' w.heap.size (.slice a' n' c') (foldS s es).lines ∧ Below w.heap.size w w' := by
  obtain ⟨W, hW, h1, h2, h3, h4⟩ := fo_new w s (.slice a n cap)
  have HN : Hid (s.lines.length = n) := hn
  have HM : Hid (es.length = m) := hme
  have HW : Hid (StAt W w.heap.size s (.slice a n cap) ∧ StAt W (w.heap.size + 1) zeroS (.slice none 0 0) ∧ Below w.heap.size w W ∧ W.heap.size = w.heap.size + 2) := ⟨h1, h2, h3, h4⟩
  have HL : Hid (Lns W a s.lines) := hl.keep h3
  have HES : Hid (EvsIn w ea es) := hes
  have HML : Hid (∀ k, (foldS s (es.take k)).lines.length * 32 ≤ 140737488351232) := fun k => fold_lenR s _ n hn hm
  have T1 : Hid True := trivial
  unfold maxLen at hmm
  clear hn hl hme hes h1 h2 h3 h4
  go_enter Tryz.func11, Tryz.ntmps11
  go_wp2_with (first
    | ((with_reducible refine guard_load 25 ?_); clear T1; refine wpList_load_st rfl _ rfl HW.out.1 rfl ?_)
    | (go_at_call 6; refine (scopy_any s a n cap _ HN.out HL.out hm).mono ?_; rintro _ x2 ⟨v2, rfl, ho2, hb2⟩; obtain ⟨a2, c2, hv2, _, _, hl2, _⟩ := ho2.shape; simp only [HN.out] at hv2; subst hv2; have HX2 : Hid (OwnL x2 W.heap.size (.slice a2 n c2) s.lines ∧ Below W.heap.size W x2) := ⟨ho2, hb2⟩; clear hb2 ho2 hl2)
    | ((with_reducible refine guard_store 25 ?_); refine wpList_store_st (s := zeroS) (s2 := s) (a2 := a2) (n2 := n) (c2 := c2) rfl _ _ rfl (StAt.new x2 zeroS (.slice none 0 0)) rfl rfl ?_; intro x3 z1 z2 z3 z4; have hu3 : Below x2.heap.size x2 x3 := z2 _ _ ((Below.refl x2.heap.size x2).alloc (Nat.le_refl _) _) (Nat.le_refl _); have HF0 : Hid (Rfo w x2.heap.size s (.slice a2 n c2) x3) := ⟨z1, (HW.out.2.1.after HX2.out.2).after hu3, (HX2.out.1.keep hu3).mono HW.out.2.2.1.size, below_next (below_next HW.out.2.2.1 HX2.out.2) hu3, by have h5 := HX2.out.2.size; have h6 := HW.out.2.2.2; omega⟩; clear z1 z2 z3 z4 hu3))
  go_loopw [11] (fun vi wr => ∃ (k : Nat), k ≤ m ∧ vi = .int .i64 k ∧ Hid (∃ a' n' c', Rfo w x2.heap.size (foldS s (es.take k)) (.slice a' n' c') wr)) (fun vi _ => m - (intOf vi).toNat)
  case atStart => exact ⟨0, Nat.zero_le _, rfl, ⟨_, _, _, HF0.out⟩⟩
  case round =>
    clear HF0 hW HX2
    obtain ⟨k, hk, rfl, HI⟩ := hrel
    by_cases hkm : k < m
    · obtain ⟨e, he⟩ := ln_get (L := es) (k := k) (by rw [HM.out]; exact hkm)
      obtain ⟨a2, n2, c2, hF⟩ := HI.out
      have hstep := fold_step s es k e he
      obtain ⟨eb, eoff, hea, _⟩ := (HES.out.keep hF.bel).cells he
      subst hea
      have hml := HML.out k
      obtain ⟨t, ht⟩ : ∃ t, foldS s (es.take k) = t := ⟨_, rfl⟩
      rw [ht] at hF hstep hml
      have HST : Hid (foldS s (es.take (k + 1)) = nextS t e) := hstep
      have HE : Hid (es[k]? = some e) := he
      have HNT : Hid (t.lines.length = n2) := hF.row.len
      have HMT : Hid (n2 * 32 ≤ 140737488351232) := by rw [HNT.out] at hml; exact hml
      have hki0 : (0 : Int) ≤ (k : Int) := by omega
      have hki1 : (k : Int) < (m : Int) := by omega
      have HF : Hid (Rfo w x2.heap.size t (.slice a2 n2 c2) wr) := hF
      clear HI hF hstep ht he hml
      go_wp2
      refine wp_region_held (S := fun y => y.rangeAt eb (eoff + k * 10) (evA e).toList) (by kernel_rfl) ?_
      change wpAnyH _ _ _ _ _ _ _ _ (World.drew _)
      obtain ⟨D0, hD⟩ : ∃ D0, World.drew wr = D0 := ⟨_, rfl⟩
      have HD0 : Hid (Rfo w x2.heap.size t (.slice a2 n2 c2) D0) := by rw [← hD]; exact HF.out.keep (Below.refl _ _).drew
      rw [hD]
      clear hD
      refine wpAnyH_take (i := 1) (oi := { dst := some 16, op := Op.move (Operand.tmp 1), type := 38, pos := "ref.go:281", after := #[], guard := none }) (v := ?_) rfl (by kernel_rfl) (by kernel_rfl) (by kernel_rfl) (fun _ _ _ h => h) (Or.inl ⟨by rfl, ?_⟩) (evs_range (HES.out.keep HD0.out.bel) HE.out) ?_
      rotate_left
      · (intro y hy; go_simp; try (with_reducible rfl))
      simp only [Act.put, List.setIfInBounds_toArray, List.set_cons_zero, List.set_cons_succ]
      refine wpAnyH_take (i := 2) (oi := { dst := some 17, op := Op.move (Operand.tmp 6), type := 3, pos := "ref.go:281", after := #[], guard := none }) (v := ?_) rfl (by kernel_rfl) (by kernel_rfl) (by kernel_rfl) (fun _ _ _ h => h) (Or.inl ⟨by rfl, ?_⟩) (evs_range (HES.out.keep HD0.out.bel) HE.out) ?_
      rotate_left
      · (intro y hy; go_simp; try (with_reducible rfl))
      simp only [Act.put, List.setIfInBounds_toArray, List.set_cons_zero, List.set_cons_succ]
      refine wpAnyH_take (i := 3) (oi := { dst := some 18, op := Op.indexAddr 38 (Operand.tmp 16) (Operand.tmp 17), type := 0, pos := "ref.go:281", after := #[{ on := 1, ground := Ground.data }, { on := 2, ground := Ground.data }], guard := none }) (v := ?_) rfl (by kernel_rfl) (by kernel_rfl) (by kernel_rfl) (fun _ _ _ h => h) (Or.inl ⟨by rfl, ?_⟩) (evs_range (HES.out.keep HD0.out.bel) HE.out) ?_
      rotate_left
      · (intro y hy; go_simp; try (with_reducible rfl))
      simp only [Act.put, List.setIfInBounds_toArray, List.set_cons_zero, List.set_cons_succ]
      refine wpAnyH_take (i := 4) (oi := { dst := some 19, op := Op.load 28 (Operand.tmp 18), type := 28, pos := "ref.go:281", after := #[{ on := 3, ground := Ground.data }], guard := none }) (v := .agg (evA e)) rfl (by kernel_rfl) (by kernel_rfl) (by kernel_rfl) (fun _ _ _ h => h) (Or.inl ⟨by rfl, fun y hy => exec_load_evm (.tmp 18) rfl rfl hy⟩) (evs_range (HES.out.keep HD0.out.bel) HE.out) ?_
      simp only [Act.put, List.setIfInBounds_toArray, List.set_cons_zero, List.set_cons_succ]
      refine wpAnyH_ready (rs := [0]) (by kernel_rfl) (by simp) ?_
      refine AllReadyH.cons (o := { dst := some 15, op := Op.load 25 (Operand.tmp 5), type := 25, pos := "ref.go:281", after := #[], guard := none }) rfl (fun K hK => ?_) AllReadyH.nil
      refine step_load_st rfl _ rfl HD0.out.tb rfl ?_
      (refine hK _ _ (evs_range (HES.out.keep HD0.out.bel) HE.out) ?_; clear hK K; intro _)
      try simp only [Act.put, List.setIfInBounds_toArray, List.set_cons_zero, List.set_cons_succ]
      refine wpAnyH_ready (rs := [5]) (by kernel_rfl) (by simp) ?_
      refine AllReadyH.cons (o := { dst := some 20, op := Op.call { callee := Callee.value (Operand.func 7), args := #[Operand.tmp 15, Operand.tmp 19], argTypes := #[25, 28] }, type := 32, pos := "ref.go:281", after := #[{ on := 0, ground := Ground.data }, { on := 4, ground := Ground.data }], guard := none }) rfl (fun K hK => ?_) AllReadyH.nil
      go_simp
      refine (rapply_any t e a2 n2 c2 _ HNT.out (ownl_lns HD0.out.row) HMT.out).mono ?_
      rintro _ Y1 ⟨a3, n3, c3, rfl, ho3, hb3⟩
      have HD1 : Hid (Rfo w x2.heap.size t (.slice a2 n2 c2) Y1) := HD0.out.keep hb3
      have HO3 : Hid (OwnL Y1 D0.heap.size (.slice a3 n3 c3) (nextS t e).lines ∧ Below D0.heap.size D0 Y1) := ⟨ho3, hb3⟩
      clear ho3 hb3
      (refine hK _ _ (evs_range (HES.out.keep HD1.out.bel) HE.out) ?_; clear hK K; intro _)
      try simp only [Act.put, List.setIfInBounds_toArray, List.set_cons_zero, List.set_cons_succ]
      refine wpAnyH_take (i := 6) (oi := { dst := some 14, op := Op.move (Operand.tmp 20), type := 32, pos := "ref.go:281", after := #[{ on := 5, ground := Ground.data }], guard := none }) (v := ?_) rfl (by kernel_rfl) (by kernel_rfl) (by kernel_rfl) (fun _ _ _ h => h) (Or.inl ⟨by rfl, ?_⟩) (evs_range (HES.out.keep HD1.out.bel) HE.out) ?_
      rotate_left
      · (intro y hy; go_simp; try (with_reducible rfl))
      simp only [Act.put, List.setIfInBounds_toArray, List.set_cons_zero, List.set_cons_succ]
      refine wpAnyH_take (i := 7) (oi := { dst := some 21, op := Op.extract (Operand.tmp 14) 0, type := 25, pos := "ref.go:281", after := #[{ on := 6, ground := Ground.data }], guard := none }) (v := ?_) rfl (by kernel_rfl) (by kernel_rfl) (by kernel_rfl) (fun _ _ _ h => h) (Or.inl ⟨by rfl, ?_⟩) (evs_range (HES.out.keep HD1.out.bel) HE.out) ?_
      rotate_left
      · (intro y hy; go_simp; try (with_reducible rfl))
      simp only [Act.put, List.setIfInBounds_toArray, List.set_cons_zero, List.set_cons_succ]
      refine wpAnyH_take (i := 8) (oi := { dst := some 22, op := Op.extract (Operand.tmp 14) 1, type := 31, pos := "ref.go:281", after := #[{ on := 6, ground := Ground.data }, { on := 9, ground := Ground.gcOnly Departure.lateStores }], guard := none }) (v := ?_) rfl (by kernel_rfl) (by kernel_rfl) (by kernel_rfl) (fun _ _ _ h => h) (Or.inl ⟨by rfl, ?_⟩) (evs_range (HES.out.keep HD1.out.bel) HE.out) ?_
      rotate_left
      · (intro y hy; go_simp; try (with_reducible rfl))
      simp only [Act.put, List.setIfInBounds_toArray, List.set_cons_zero, List.set_cons_succ]
      refine wpAnyH_ready (rs := [9]) (by kernel_rfl) (by simp) ?_
      refine AllReadyH.cons (o := { dst := none, op := Op.store 25 (Operand.tmp 5) (Operand.tmp 21), type := 0, pos := "ref.go:281", after := #[{ on := 7, ground := Ground.data }, { on := 5, ground := Ground.chain }, { on := 0, ground := Ground.phase }, { on := 1, ground := Ground.phase }, { on := 2, ground := Ground.phase }, { on := 3, ground := Ground.phase }, { on := 4, ground := Ground.phase }, { on := 5, ground := Ground.phase }, { on := 6, ground := Ground.phase }, { on := 7, ground := Ground.phase }, { on := 8, ground := Ground.textOnly Departure.lateStores }], guard := none }) rfl (fun K hK => ?_) AllReadyH.nil
      refine step_store_st (s := t) (s2 := nextS t e) (a2 := a3) (n2 := n3) (c2 := c3) rfl _ _ rfl HD1.out.tb rfl rfl ?_
      intro Y2 z1 z2 z3 z4
      have HD2 : Hid (Rfo w x2.heap.size (nextS t e) (.slice a3 n3 c3) Y2) := HD0.out.next HO3.out.2 HO3.out.1 z1 z2 z3
      clear z1 z2 z3 z4
      (refine hK _ _ (evs_range (HES.out.keep HD2.out.bel) HE.out) ?_; clear hK K; intro _)
      try simp only [Act.put, List.setIfInBounds_toArray, List.set_cons_zero, List.set_cons_succ]
      refine wpAnyH_done (by kernel_rfl) ?_ _
      go_wp2
      go_roundw
      case rel => exact ⟨k + 1, by omega, by go_num, ⟨a3, n3, c3, by rw [HST.out]; exact HD2.out⟩⟩
      case measure => simp [intOf]; omega
    · obtain rfl : k = m := by omega
      obtain ⟨a2, n2, c2, hF⟩ := HI.out
      rw [List.take_of_length_le (by rw [HM.out]; exact Nat.le_refl _)] at hF
      have HF : Hid (Rfo w x2.heap.size (foldS s es) (.slice a2 n2 c2) wr) := hF
      clear hF HI
      go_wp2_with (first
        | ((with_reducible refine guard_load 25 ?_); refine wpList_load_st rfl _ rfl HF.out.tb rfl ?_)
        | ((with_reducible refine guard_store 25 ?_); refine wpList_store_st (s := zeroS) (s2 := foldS s es) (a2 := a2) (n2 := n2) (c2 := c2) rfl _ _ rfl HF.out.res rfl rfl ?_; intro y z1 z2 z3 z4))
      refine bodyPost_ret (results_st1 rfl _ _ _ rfl z1) rfl ⟨a2, n2, c2, rfl, ?_, z2 _ _ HF.out.bel (by omega)⟩
      exact HF.out.row.keepOther (fun g hg => z3 g (fun hh => own_st_ne HF.out.row (hh ▸ HF.out.res) hg.symm))
end Go.Proofs.YtbpjlphjhjfdoaaGreat
namespace Go.Proofs.YtbpjlphjhjfdoaaGreat
open Go.ChangeShapes Go.WideShapes Go.ChangeAt Go.RowKit
set_option linter.unusedVariables false
set_option linter.unusedSimpArgs false
structure Oap (w : World) (S2 : St) (B5 B6 B8 : Nat) (v3 v4 : Value) (m : St) (vm : Value) (x : World) : Prop where
  bel : Below w.heap.size w x
  m5 : StAt x B5 m vm
  r6 : StAt x B6 S2 v3
  r8 : StAt x B8 S2 v4
  o5 : OwnL x w.heap.size vm m.lines
  o6 : OwnL x w.heap.size v3 S2.lines
  o8 : OwnL x w.heap.size v4 S2.lines
  n6 : ∀ g, v3.ownBlock = some g → vm.ownBlock ≠ some g
  n8 : ∀ g, v4.ownBlock = some g → vm.ownBlock ≠ some g
  d6 : B6 ≠ B5
  d8 : B8 ≠ B5
  lo : w.heap.size ≤ B5
theorem Oap.keep {w x y : World} {S2 m : St} {B5 B6 B8 : Nat} {v3 v4 vm : Value} (h : Oap w S2 B5 B6 B8 v3 v4 m vm x) (hb : Below x.heap.size x y) : Oap w S2 B5 B6 B8 v3 v4 m vm y :=
  ⟨below_next h.bel hb, h.m5.after hb, h.r6.after hb, h.r8.after hb, h.o5.keep hb, h.o6.keep hb, h.o8.keep hb, h.n6, h.n8, h.d6, h.d8, h.lo⟩
theorem Oap.turn {w x : World} {S2 m : St} {B5 B6 B8 g k c : Nat} {v3 v4 : Value} (h : Oap w S2 B5 B6 B8 v3 v4 m (.slice (some ⟨g, 0, none⟩) k c) x) (i j : Nat) (p : Ln) (y : Int) (hp : m.lines[i]? = some p) (hj : j < 4) :
    Oap w S2 B5 B6 B8 v3 v4 { m with lines := m.lines.set i (turnL p j y) } (.slice (some ⟨g, 0, none⟩) k c) (x.setCell ⟨g, i * 4 + j, none⟩ (.int .i64 y)) := by
  have n5 : some B5 ≠ some g := own_st_ne h.o5 h.m5
  have n6 : some B6 ≠ some g := own_st_ne h.o5 h.r6
  have n8 : some B8 ≠ some g := own_st_ne h.o5 h.r8
  have hg := (h.o5.ob g rfl).1
  have hot : ∀ b, b ≠ g → (x.setCell ⟨g, i * 4 + j, none⟩ (.int .i64 y)).heap[b]? = x.heap[b]? := fun b hb => heap_setCell_other x ⟨g, i * 4 + j, none⟩ b _ hb
  refine ⟨h.bel.setCell (p := ⟨g, i * 4 + j, none⟩) hg _, (hot _ (fun hh => n5 (congrArg some hh))).trans h.m5, (hot _ (fun hh => n6 (congrArg some hh))).trans h.r6, (hot _ (fun hh => n8 (congrArg some hh))).trans h.r8, h.o5.turn i j p y hp hj, ?_, ?_, h.n6, h.n8, h.d6, h.d8, h.lo⟩
  · exact h.o6.keepOther (fun b hb => hot b (fun hh => h.n6 b hb (congrArg some hh.symm)))
  · exact h.o8.keepOther (fun b hb => hot b (fun hh => h.n8 b hb (congrArg some hh.symm)))
theorem Oap.app {w x y : World} {S2 m : St} {B5 B6 B8 g4 k c4 : Nat} {v3 v4 vm : Value} {p : Ln} (h : Oap w S2 B5 B6 B8 v3 v4 m vm x) (ho : OwnL y w.heap.size (.slice (some ⟨g4, 0, none⟩) k c4) (m.lines ++ [p])) (hg : x.grownBy y vm.ownBlock) (hat : vm.ownBlock = some g4 ∨ g4 = x.heap.size) :
    StAt y B5 m vm ∧ Oap w S2 B5 B6 B8 v3 v4 { m with lines := m.lines ++ [p] } (.slice (some ⟨g4, 0, none⟩) k c4) (y.setCell ⟨B5, 5, none⟩ (.slice (some ⟨g4, 0, none⟩) k c4)) := by
  have hbel : Below w.heap.size w y := h.bel.grown hg h.bel.size (fun b hb => (h.o5.ob b hb).1)
  have s5 : StAt y B5 m vm := (hg.block _ h.m5.lt (own_st_ne h.o5 h.m5)).trans h.m5
  have s6 : StAt y B6 S2 v3 := (hg.block _ h.r6.lt (own_st_ne h.o5 h.r6)).trans h.r6
  have s8 : StAt y B8 S2 v4 := (hg.block _ h.r8.lt (own_st_ne h.o5 h.r8)).trans h.r8
  have q6 : OwnL y w.heap.size v3 S2.lines := h.o6.keepOther (fun b hb => hg.block b (h.o6.ob b hb).2.1 (fun hh => h.n6 b hb hh.symm))
  have q8 : OwnL y w.heap.size v4 S2.lines := h.o8.keepOther (fun b hb => hg.block b (h.o8.ob b hb).2.1 (fun hh => h.n8 b hb hh.symm))
  have hot : ∀ b, b ≠ B5 → (y.setCell ⟨B5, 5, none⟩ (.slice (some ⟨g4, 0, none⟩) k c4)).heap[b]? = y.heap[b]? := fun b hb => heap_setCell_other y ⟨B5, 5, none⟩ b _ hb
  refine ⟨s5, hbel.setCell (p := ⟨B5, 5, none⟩) h.lo _, St.setTo s5 5 _ rfl, (hot _ h.d6).trans s6, (hot _ h.d8).trans s8, ho.setOther _ _ (own_st_ne ho s5), q6.setOther _ _ (own_st_ne q6 s5), q8.setOther _ _ (own_st_ne q8 s5), ?_, ?_, h.d6, h.d8, h.lo⟩
  · intro b hb hh
    cases hh
    rcases hat with hat | hat
    · exact h.n6 _ hb hat
    · have h9 : g4 < x.heap.size := (h.o6.ob _ hb).2.1; omega
  · intro b hb hh
    cases hh
    rcases hat with hat | hat
    · exact h.n8 _ hb hat
    · have h9 : g4 < x.heap.size := (h.o8.ob _ hb).2.1; omega
end Go.Proofs.YtbpjlphjhjfdoaaGreat
