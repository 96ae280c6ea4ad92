/- Own texts, joined: Rj3, Rj4. -/
import Derived.Test.YtldbdhhbmnbmaaaGreatM67
import Derived.Deep.QuietTactic
import Derived.BigQuiet
import Derived.Deep.DeepCutAuto
namespace Go.Proofs.YtldbdhhbmnbmaaaGreat
open Go.ChangeShapes Go.WideShapes Go.ChangeAt Go.RowKit
set_option linter.unusedVariables false
set_option linter.unusedSimpArgs false
set_option maxRecDepth 20000 in
set_option maxHeartbeats 16000000 in
theorem rj_3 (s : St) (e : Ev) (a : Option Addr) (n cap : Nat) (w : World) (hn : s.lines.length = n) (hl : Lns w a s.lines) (hm : n ≤ maxLen) (hv : vldB s = true) (hc : chk 5 e = 0) (he : s.events ≠ 1099511627776) (ho : e.order = s.order) (hk : e.kind = 3) :
    Calls Tryz.prog 15 #[.agg (stA s (.slice a n cap)), .agg (evA e)] w fun r w' => r = .returned (.int .i64 (judS s e)) ∧ Below w.heap.size w w' := by
  have hJ := jud_std hv hc he ho hk
  obtain ⟨W, hW, HS⟩ := se_new w s e a n cap hl
  have HS1 : Hid (SE w s e a n cap W) := HS
  have HN : Hid (s.lines.length = n) := hn
  have HK : Hid (e.kind = 3) := hk
  have HV : Hid (vldB s = true) := hv
  have HC : Hid (chk 5 e = 0) := hc
  have hr := right_of hc
  have qq0 : 0 ≤ e.qty := by have := hr.qty0; simpa [loQ] using this
  have qq1 : e.qty ≤ 10000 := hr.qty1
  have pp0 : 0 ≤ e.price := hr.price0
  have pp1 : e.price ≤ 1000000000000000 := by have := hr.price1; have h5 : hiP 5 ≤ 1000000000000000 := (by decide); omega
  have heb : (s.events == 1099511627776) = false := by simpa using he
  have hob : (e.order != s.order) = false := by simpa using ho
  have HRI : Hid (linesFrom (-1) s.lines = true) := (linesB_from (vl_of hv).lines).2
  have HLF : Hid (linesB s.lines = true) := (vl_of hv).lines
  have HJ : Hid (judS s e = if stdR s 3 ≠ 0 then stdR s 3 else refR s e) := hJ
  have HKR : Hid (e.kind = 3) := hk
  clear hJ hn hl hv hc he hk hr HS
  go_enter Tryz.func15, Tryz.ntmps15
  go_upto_region 5 with (first | ((with_reducible refine guard_load 25 ?_); refine wpList_load_st rfl _ rfl HS1.out.st rfl ?_) | (go_at_call 29; refine (rvalid_any s a n cap _ HN.out HS1.out.ln hm).mono ?_; rw [HV.out]; rintro _ x2 ⟨rfl, hb2⟩; have HS2 : Hid (SE w s e a n cap x2) := SE.keep HS1.out hb2; clear hb2) | ((with_reducible refine guard_loadg 28 ?_); refine wpList_load_evg rfl _ rfl HS2.out.ev rfl ?_) | (go_at_call 30; refine (rcheck_ev 5 e _).mono ?_; rw [HC.out]; rintro _ x3 ⟨rfl, hb3⟩; have HS3 : Hid (SE w s e a n cap x3) := SE.keep HS2.out hb3; obtain ⟨c0, c1, c5, c6, c7, c8, d0, d1, d2, d3, d4⟩ := SE.cs HS3.out HK.out; clear hb3))
  by_cases hst : s.status = 0
  · have hs0 : (s.status == 0) = true := by simpa using hst
    have hs1 : (s.status != 0) = false := by simpa using hst
    have hsr : stdR s 3 = 3 := by unfold stdR; simp [hst]
    have HR : Hid (judS s e = 3) := by show _ = _; rw [HJ.out, hsr, if_pos (by decide)]
    clear hsr hst
    go_wp2
    go_ret
    exact ⟨by rw [HR.out]; rfl, HS3.out.bel⟩
  · have hs0 : (s.status == 0) = false := by simpa using hst
    have hs1 : (s.status != 0) = true := by simpa using hst
    cases hU : useB s 3 with
    | false =>
      have HU : Hid (useB s 3 = false) := hU
      have hsr : stdR s 3 = 5 := by unfold stdR; simp [hst, hU]
      have HR : Hid (judS s e = 5) := by show _ = _; rw [HJ.out, hsr, if_pos (by decide)]
      clear hsr hst hU
      go_wp2_with (first | ((with_reducible refine guard_load 25 ?_); first | refine wpList_load_st rfl _ rfl HS4.out.st rfl ?_ | refine wpList_load_st rfl _ rfl HS3.out.st rfl ?_) | (go_at_call 31; refine (ruse_any s 3 a n cap _ HN.out HS3.out.ln hm HV.out (by decide) (by decide)).mono ?_; rw [HU.out]; rintro _ x4 ⟨rfl, hb4⟩; have HS4 : Hid (SE w s e a n cap x4) := SE.keep HS3.out hb4; obtain ⟨c0, c1, c5, c6, c7, c8, d0, d1, d2, d3, d4⟩ := SE.cs HS4.out HK.out; clear hb4))
      go_ret
      exact ⟨by rw [HR.out]; rfl, HS4.out.bel⟩
    | true =>
      have HU : Hid (useB s 3 = true) := hU
      have hsr : stdR s 3 = 0 := by unfold stdR; simp [hst, hU]
      clear hU
      have hrf : refR s e = refMoney (dueS s - s.paid) e := by unfold refR; simp [HKR.out]
      by_cases hp0 : e.price = 0
      · have hp0b : (e.price == 0) = true := by simpa using hp0
        have HR : Hid (judS s e = 6) := by show _ = _; rw [HJ.out, hsr, if_neg (by decide), hrf]; unfold refMoney; rw [if_pos hp0]
        clear hsr hst hrf hp0
        go_wp2_with (first | ((with_reducible refine guard_load 25 ?_); first | refine wpList_load_st rfl _ rfl HS4.out.st rfl ?_ | refine wpList_load_st rfl _ rfl HS3.out.st rfl ?_) | (go_at_call 31; refine (ruse_any s 3 a n cap _ HN.out HS3.out.ln hm HV.out (by decide) (by decide)).mono ?_; rw [HU.out]; rintro _ x4 ⟨rfl, hb4⟩; have HS4 : Hid (SE w s e a n cap x4) := SE.keep HS3.out hb4; obtain ⟨c0, c1, c5, c6, c7, c8, d0, d1, d2, d3, d4⟩ := SE.cs HS4.out HK.out; clear hb4))
        go_ret
        exact ⟨by rw [HR.out]; rfl, HS4.out.bel⟩
      · have hp0b : (e.price == 0) = false := by simpa using hp0
        obtain ⟨iv, hiv⟩ : ∃ iv, atV s.lines e.item = iv := ⟨_, rfl⟩
        have HAT : Hid (atV s.lines e.item = iv) := hiv
        have pd := vl_of HV.out
        have HDU : Hid (linesB s.lines = true ∧ 0 ≤ s.tax ∧ s.tax ≤ 5000) := ⟨pd.lines, pd.t1, pd.t2⟩
        obtain ⟨d, hd⟩ : ∃ d, dueS s = d := ⟨_, rfl⟩
        have pd0 : 0 ≤ s.paid := pd.p1
        have pd2 : s.paid ≤ 240000000000000 := by have := pd.p2; have := (vld_due HV.out).2.2.2.2.2.2.2; omega
        obtain ⟨S, hS⟩ : ∃ S, s.paid + e.price = S := ⟨_, rfl⟩
        have hwS : IntKind.i64.wrap (s.paid + e.price) = S := by rw [hS]; exact wrap_id (by omega) (by omega)
        obtain ⟨E, hE⟩ : ∃ E : World → Prop, (fun x => SE w s e a n cap x) = E := ⟨_, rfl⟩
        have CS : Hid (∀ w2, E w2 → w2.cell? ⟨w.heap.size, 6, none⟩ = some (.int .i64 s.paid) ∧ w2.cell? ⟨w.heap.size + 1, 0, none⟩ = some (.int .i64 3) ∧ w2.cell? ⟨w.heap.size + 1, 4, none⟩ = some (.int .i64 e.price)) := fun w2 h => by rw [← hE] at h; obtain ⟨c0, c1, c5, c6, c7, c8, d0, d1, d2, d3, d4⟩ := SE.cs h HK.out; exact ⟨c6, d0, d4⟩
        have RS : Hid (∀ w2, E w2 → StAt w2 w.heap.size s (.slice a n cap)) := fun w2 h => by rw [← hE] at h; exact h.st
        have HBel : Hid (∀ w2, E w2 → Below w.heap.size w w2) := fun w2 h => by rw [← hE] at h; exact h.bel
        have CD : Hid (∀ w2, E w2 → Calls Tryz.prog 17 #[.agg (stA s (.slice a n cap))] w2 fun x w' => x = .returned (.int .i64 d) ∧ E w') := fun w2 h => by
          rw [← hE] at h ⊢
          rw [← hd]
          exact (rdue_any s a n cap w2 HN.out h.ln HDU.out.1 HDU.out.2.1 HDU.out.2.2).mono fun x w' ⟨h1, h2⟩ => ⟨h1, SE.keep h h2⟩
        have HEE : Hid (∀ y, SE w s e a n cap y → E y.drew) := fun y h => by rw [← hE]; exact SE.drew h
        by_cases hg : d < S
        · have hgb : decide (d < S) = true := by simpa using hg
          have HR : Hid (judS s e = 10) := by show _ = _; rw [HJ.out, hsr, if_neg (by decide), hrf]; unfold refMoney; rw [if_neg hp0, if_pos (by omega)]
          clear hsr hst hrf hp0 hiv hS hg pd hE hd
          go_wp2_with (first | ((with_reducible refine guard_load 25 ?_); first | refine wpList_load_st rfl _ rfl HS4.out.st rfl ?_ | refine wpList_load_st rfl _ rfl HS3.out.st rfl ?_) | (go_at_call 31; refine (ruse_any s 3 a n cap _ HN.out HS3.out.ln hm HV.out (by decide) (by decide)).mono ?_; rw [HU.out]; rintro _ x4 ⟨rfl, hb4⟩; have HS4 : Hid (SE w s e a n cap x4) := SE.keep HS3.out hb4; obtain ⟨c0, c1, c5, c6, c7, c8, d0, d1, d2, d3, d4⟩ := SE.cs HS4.out HK.out; clear hb4) | (go_at_call 18; refine (rat_any s e.item a n cap _ HN.out HS4.out.ln hm HRI.out).mono ?_; rw [HAT.out]; rintro _ x5 ⟨rfl, hb5⟩; have HS5 : Hid (SE w s e a n cap x5) := SE.keep HS4.out hb5; obtain ⟨c0, c1, c5, c6, c7, c8, d0, d1, d2, d3, d4⟩ := SE.cs HS5.out HK.out; clear hb5))
          go_quiet (fail)
          go_wp2
          go_quiet (fail)
          go_wp2
          refine wp_region_quiet (C := E) (by kernel_rfl) (by kernel_rfl) (HEE.out _ (SE.drewN (SE.drewN HS5.out _) _)) ?_
          simp only [List.toList_toArray]
          repeat (any_goals (first
            | go_big_quiet_skip
            | (go_big_quiet_want
               first
               | (refine quiet_val (v := .agg (stA s (.slice a n cap))) (fun w2 hw2 => exec_load_st (.tmp 2) rfl rfl (RS.out w2 hw2)) ?_
                  go_big_quiet_on; simp only [Act.put, List.setIfInBounds_toArray, List.set_cons_zero, List.set_cons_succ])
               | (refine quiet_val (v := ?_) (fun w2 hw2 => ?_) ?_
                  rotate_left
                  · (obtain ⟨e6, f0, f4⟩ := CS.out w2 hw2; go_simp; with_reducible rfl)
                  go_big_quiet_on; simp only [Act.put, List.setIfInBounds_toArray, List.set_cons_zero, List.set_cons_succ])
               | (refine quiet_call (v := ?_) (f := ?_) (args := ?_) (fun w2 hw2 => ?_) (fun w2 hw2 => ?_) ?_
                  rotate_left 3
                  · (go_simp; refine ⟨?_, ?_⟩ <;> with_reducible rfl)
                  · (go_at_call 17; exact CD.out _ hw2)
                  (go_big_quiet_on; simp only [Act.put, List.setIfInBounds_toArray, List.set_cons_zero, List.set_cons_succ])))))
          all_goals
            refine wpQuiet_nil ?_
            intro w3 hw3
            go_wp2
            go_ret
            exact ⟨by rw [HR.out]; rfl, HBel.out _ hw3⟩
        · have hgb : decide (d < S) = false := by simpa using hg
          have HR : Hid (judS s e = 0) := by show _ = _; rw [HJ.out, hsr, if_neg (by decide), hrf]; unfold refMoney; rw [if_neg hp0, if_neg (by omega)]
          clear hsr hst hrf hp0 hiv hS hg pd hE hd
          go_wp2_with (first | ((with_reducible refine guard_load 25 ?_); first | refine wpList_load_st rfl _ rfl HS4.out.st rfl ?_ | refine wpList_load_st rfl _ rfl HS3.out.st rfl ?_) | (go_at_call 31; refine (ruse_any s 3 a n cap _ HN.out HS3.out.ln hm HV.out (by decide) (by decide)).mono ?_; rw [HU.out]; rintro _ x4 ⟨rfl, hb4⟩; have HS4 : Hid (SE w s e a n cap x4) := SE.keep HS3.out hb4; obtain ⟨c0, c1, c5, c6, c7, c8, d0, d1, d2, d3, d4⟩ := SE.cs HS4.out HK.out; clear hb4) | (go_at_call 18; refine (rat_any s e.item a n cap _ HN.out HS4.out.ln hm HRI.out).mono ?_; rw [HAT.out]; rintro _ x5 ⟨rfl, hb5⟩; have HS5 : Hid (SE w s e a n cap x5) := SE.keep HS4.out hb5; obtain ⟨c0, c1, c5, c6, c7, c8, d0, d1, d2, d3, d4⟩ := SE.cs HS5.out HK.out; clear hb5))
          go_quiet (fail)
          go_wp2
          go_quiet (fail)
          go_wp2
          refine wp_region_quiet (C := E) (by kernel_rfl) (by kernel_rfl) (HEE.out _ (SE.drewN (SE.drewN HS5.out _) _)) ?_
          simp only [List.toList_toArray]
          repeat (any_goals (first
            | go_big_quiet_skip
            | (go_big_quiet_want
               first
               | (refine quiet_val (v := .agg (stA s (.slice a n cap))) (fun w2 hw2 => exec_load_st (.tmp 2) rfl rfl (RS.out w2 hw2)) ?_
                  go_big_quiet_on; simp only [Act.put, List.setIfInBounds_toArray, List.set_cons_zero, List.set_cons_succ])
               | (refine quiet_val (v := ?_) (fun w2 hw2 => ?_) ?_
                  rotate_left
                  · (obtain ⟨e6, f0, f4⟩ := CS.out w2 hw2; go_simp; with_reducible rfl)
                  go_big_quiet_on; simp only [Act.put, List.setIfInBounds_toArray, List.set_cons_zero, List.set_cons_succ])
               | (refine quiet_call (v := ?_) (f := ?_) (args := ?_) (fun w2 hw2 => ?_) (fun w2 hw2 => ?_) ?_
                  rotate_left 3
                  · (go_simp; refine ⟨?_, ?_⟩ <;> with_reducible rfl)
                  · (go_at_call 17; exact CD.out _ hw2)
                  (go_big_quiet_on; simp only [Act.put, List.setIfInBounds_toArray, List.set_cons_zero, List.set_cons_succ])))))
          all_goals
            refine wpQuiet_nil ?_
            intro w3 hw3
            go_wp2
            go_ret
            exact ⟨by rw [HR.out]; rfl, HBel.out _ hw3⟩
end Go.Proofs.YtldbdhhbmnbmaaaGreat
namespace Go.Proofs.YtldbdhhbmnbmaaaGreat
open Go.ChangeShapes Go.WideShapes Go.ChangeAt Go.RowKit
set_option linter.unusedVariables false
set_option linter.unusedSimpArgs false
set_option maxRecDepth 20000 in
set_option maxHeartbeats 16000000 in
theorem rj_4 (s : St) (e : Ev) (a : Option Addr) (n cap : Nat) (w : World) (hn : s.lines.length = n) (hl : Lns w a s.lines) (hm : n ≤ maxLen) (hv : vldB s = true) (hc : chk 5 e = 0) (he : s.events ≠ 1099511627776) (ho : e.order = s.order) (hk : e.kind = 4) :
    Calls Tryz.prog 15 #[.agg (stA s (.slice a n cap)), .agg (evA e)] w fun r w' => r = .returned (.int .i64 (judS s e)) ∧ Below w.heap.size w w' := by
  have hJ := jud_std hv hc he ho hk
  obtain ⟨W, hW, HS⟩ := se_new w s e a n cap hl
  have HS1 : Hid (SE w s e a n cap W) := HS
  have HN : Hid (s.lines.length = n) := hn
  have HK : Hid (e.kind = 4) := hk
  have HV : Hid (vldB s = true) := hv
  have HC : Hid (chk 5 e = 0) := hc
  have hr := right_of hc
  have qq0 : 0 ≤ e.qty := by have := hr.qty0; simpa [loQ] using this
  have qq1 : e.qty ≤ 10000 := hr.qty1
  have pp0 : 0 ≤ e.price := hr.price0
  have pp1 : e.price ≤ 1000000000000000 := by have := hr.price1; have h5 : hiP 5 ≤ 1000000000000000 := (by decide); omega
  have heb : (s.events == 1099511627776) = false := by simpa using he
  have hob : (e.order != s.order) = false := by simpa using ho
  have HRI : Hid (linesFrom (-1) s.lines = true) := (linesB_from (vl_of hv).lines).2
  have HLF : Hid (linesB s.lines = true) := (vl_of hv).lines
  have HJ : Hid (judS s e = if stdR s 4 ≠ 0 then stdR s 4 else refR s e) := hJ
  have HKR : Hid (e.kind = 4) := hk
  clear hJ hn hl hv hc he hk hr HS
  go_enter Tryz.func15, Tryz.ntmps15
  go_upto_region 5 with (first | ((with_reducible refine guard_load 25 ?_); refine wpList_load_st rfl _ rfl HS1.out.st rfl ?_) | (go_at_call 29; refine (rvalid_any s a n cap _ HN.out HS1.out.ln hm).mono ?_; rw [HV.out]; rintro _ x2 ⟨rfl, hb2⟩; have HS2 : Hid (SE w s e a n cap x2) := SE.keep HS1.out hb2; clear hb2) | ((with_reducible refine guard_loadg 28 ?_); refine wpList_load_evg rfl _ rfl HS2.out.ev rfl ?_) | (go_at_call 30; refine (rcheck_ev 5 e _).mono ?_; rw [HC.out]; rintro _ x3 ⟨rfl, hb3⟩; have HS3 : Hid (SE w s e a n cap x3) := SE.keep HS2.out hb3; obtain ⟨c0, c1, c5, c6, c7, c8, d0, d1, d2, d3, d4⟩ := SE.cs HS3.out HK.out; clear hb3))
  by_cases hst : s.status = 0
  · have hs0 : (s.status == 0) = true := by simpa using hst
    have hs1 : (s.status != 0) = false := by simpa using hst
    have hsr : stdR s 4 = 3 := by unfold stdR; simp [hst]
    have HR : Hid (judS s e = 3) := by show _ = _; rw [HJ.out, hsr, if_pos (by decide)]
    clear hsr hst
    go_wp2
    go_ret
    exact ⟨by rw [HR.out]; rfl, HS3.out.bel⟩
  · have hs0 : (s.status == 0) = false := by simpa using hst
    have hs1 : (s.status != 0) = true := by simpa using hst
    cases hU : useB s 4 with
    | false =>
      have HU : Hid (useB s 4 = false) := hU
      have hsr : stdR s 4 = 5 := by unfold stdR; simp [hst, hU]
      have HR : Hid (judS s e = 5) := by show _ = _; rw [HJ.out, hsr, if_pos (by decide)]
      clear hsr hst hU
      go_wp2_with (first | ((with_reducible refine guard_load 25 ?_); first | refine wpList_load_st rfl _ rfl HS4.out.st rfl ?_ | refine wpList_load_st rfl _ rfl HS3.out.st rfl ?_) | (go_at_call 31; refine (ruse_any s 4 a n cap _ HN.out HS3.out.ln hm HV.out (by decide) (by decide)).mono ?_; rw [HU.out]; rintro _ x4 ⟨rfl, hb4⟩; have HS4 : Hid (SE w s e a n cap x4) := SE.keep HS3.out hb4; obtain ⟨c0, c1, c5, c6, c7, c8, d0, d1, d2, d3, d4⟩ := SE.cs HS4.out HK.out; clear hb4))
      go_ret
      exact ⟨by rw [HR.out]; rfl, HS4.out.bel⟩
    | true =>
      have HU : Hid (useB s 4 = true) := hU
      have hsr : stdR s 4 = 0 := by unfold stdR; simp [hst, hU]
      clear hU
      have hrf : refR s e = refTake (fun p => p.qty - p.shipped) s e := by unfold refR; simp [HKR.out]
      by_cases hq0 : e.qty = 0
      · have hq0b : (e.qty == 0) = true := by simpa using hq0
        have HR : Hid (judS s e = 6) := by show _ = _; rw [HJ.out, hsr, if_neg (by decide), hrf]; unfold refTake; rw [if_pos hq0]
        clear hsr hst hrf hq0
        go_wp2_with (first | ((with_reducible refine guard_load 25 ?_); first | refine wpList_load_st rfl _ rfl HS4.out.st rfl ?_ | refine wpList_load_st rfl _ rfl HS3.out.st rfl ?_) | (go_at_call 31; refine (ruse_any s 4 a n cap _ HN.out HS3.out.ln hm HV.out (by decide) (by decide)).mono ?_; rw [HU.out]; rintro _ x4 ⟨rfl, hb4⟩; have HS4 : Hid (SE w s e a n cap x4) := SE.keep HS3.out hb4; obtain ⟨c0, c1, c5, c6, c7, c8, d0, d1, d2, d3, d4⟩ := SE.cs HS4.out HK.out; clear hb4))
        go_ret
        exact ⟨by rw [HR.out]; rfl, HS4.out.bel⟩
      · have hq0b : (e.qty == 0) = false := by simpa using hq0
        cases hO : lnAt s.lines e.item with
        | none =>
          have HAT : Hid (atV s.lines e.item = -1) := by show _ = _; unfold atV; rw [hO]
          have HR : Hid (judS s e = 7) := by show _ = _; rw [HJ.out, hsr, if_neg (by decide), hrf]; unfold refTake; rw [if_neg hq0, hO]; try rfl
          clear hsr hst hrf hq0 hO
          go_wp2_with (first | ((with_reducible refine guard_load 25 ?_); first | refine wpList_load_st rfl _ rfl HS4.out.st rfl ?_ | refine wpList_load_st rfl _ rfl HS3.out.st rfl ?_) | (go_at_call 31; refine (ruse_any s 4 a n cap _ HN.out HS3.out.ln hm HV.out (by decide) (by decide)).mono ?_; rw [HU.out]; rintro _ x4 ⟨rfl, hb4⟩; have HS4 : Hid (SE w s e a n cap x4) := SE.keep HS3.out hb4; obtain ⟨c0, c1, c5, c6, c7, c8, d0, d1, d2, d3, d4⟩ := SE.cs HS4.out HK.out; clear hb4) | (go_at_call 18; refine (rat_any s e.item a n cap _ HN.out HS4.out.ln hm HRI.out).mono ?_; rw [HAT.out]; rintro _ x5 ⟨rfl, hb5⟩; have HS5 : Hid (SE w s e a n cap x5) := SE.keep HS4.out hb5; obtain ⟨c0, c1, c5, c6, c7, c8, d0, d1, d2, d3, d4⟩ := SE.cs HS5.out HK.out; clear hb5))
          go_ret
          exact ⟨by rw [HR.out]; rfl, HS5.out.bel⟩
        | some p =>
          obtain ⟨g1, g2⟩ := lnAt_some hO
          obtain ⟨kk, hkk⟩ : ∃ kk, lbI s.lines e.item = kk := ⟨_, rfl⟩
          have HAT : Hid (atV s.lines e.item = (kk : Int)) := by show _ = _; unfold atV; rw [hO]; simp only [hkk]
          rw [hkk] at g1
          have fp := (linesB_facts HLF.out).2 _ _ g1
          have HG : Hid (s.lines[kk]? = some p) := g1
          have hkn : kk < n := by have := ln_lt g1; have := HN.out; omega
          have hk0 : decide ((kk : Int) < 0) = false := by simp
          have hk1 : decide ((0 : Int) ≤ (kk : Int)) = true := by simp
          have f1 : 1 ≤ p.qty := by omega
          have f2 : p.qty ≤ 100000 := by omega
          have f3 : 0 ≤ p.shipped := by omega
          have f4 : p.shipped ≤ p.qty := by omega
          obtain ⟨S, hS⟩ : ∃ S, p.qty - p.shipped = S := ⟨_, rfl⟩
          have hwS : IntKind.i64.wrap (p.qty - p.shipped) = S := by rw [hS]; exact wrap_id (by omega) (by omega)
          by_cases hg : S < e.qty
          · have hgb : decide (S < e.qty) = true := by simpa using hg
            have HR : Hid (judS s e = 10) := by show _ = _; rw [HJ.out, hsr, if_neg (by decide), hrf]; unfold refTake; rw [if_neg hq0, hO]; show (if p.qty - p.shipped < e.qty then (10 : Int) else 0) = 10; rw [hS, if_pos hg]
            clear hsr hst hrf hq0 hO g1 g2 hkk fp hg hS
            go_wp2_with (first | ((with_reducible refine guard_load 25 ?_); first | refine wpList_load_st rfl _ rfl HS4.out.st rfl ?_ | refine wpList_load_st rfl _ rfl HS3.out.st rfl ?_) | (go_at_call 31; refine (ruse_any s 4 a n cap _ HN.out HS3.out.ln hm HV.out (by decide) (by decide)).mono ?_; rw [HU.out]; rintro _ x4 ⟨rfl, hb4⟩; have HS4 : Hid (SE w s e a n cap x4) := SE.keep HS3.out hb4; obtain ⟨c0, c1, c5, c6, c7, c8, d0, d1, d2, d3, d4⟩ := SE.cs HS4.out HK.out; clear hb4) | (go_at_call 18; refine (rat_any s e.item a n cap _ HN.out HS4.out.ln hm HRI.out).mono ?_; rw [HAT.out]; rintro _ x5 ⟨rfl, hb5⟩; have HS5 : Hid (SE w s e a n cap x5) := SE.keep HS4.out hb5; obtain ⟨c0, c1, c5, c6, c7, c8, d0, d1, d2, d3, d4⟩ := SE.cs HS5.out HK.out; obtain ⟨lb, lo, hlo, hlt, q0, q1, q2, q3⟩ := HS5.out.ln.cells kk p HG.out; rw [hlo] at c5; clear hlo; clear hb5))
            go_quiet (fail)
            go_wp2
            go_quiet (fail)
            go_wp2
            go_ret
            exact ⟨by rw [HR.out]; rfl, (SE.drewN (SE.drewN HS5.out _) _).bel⟩
          · have hgb : decide (S < e.qty) = false := by simpa using hg
            have HR : Hid (judS s e = 0) := by show _ = _; rw [HJ.out, hsr, if_neg (by decide), hrf]; unfold refTake; rw [if_neg hq0, hO]; show (if p.qty - p.shipped < e.qty then (10 : Int) else 0) = 0; rw [hS, if_neg hg]
            clear hsr hst hrf hq0 hO g1 g2 hkk fp hg hS
            go_wp2_with (first | ((with_reducible refine guard_load 25 ?_); first | refine wpList_load_st rfl _ rfl HS4.out.st rfl ?_ | refine wpList_load_st rfl _ rfl HS3.out.st rfl ?_) | (go_at_call 31; refine (ruse_any s 4 a n cap _ HN.out HS3.out.ln hm HV.out (by decide) (by decide)).mono ?_; rw [HU.out]; rintro _ x4 ⟨rfl, hb4⟩; have HS4 : Hid (SE w s e a n cap x4) := SE.keep HS3.out hb4; obtain ⟨c0, c1, c5, c6, c7, c8, d0, d1, d2, d3, d4⟩ := SE.cs HS4.out HK.out; clear hb4) | (go_at_call 18; refine (rat_any s e.item a n cap _ HN.out HS4.out.ln hm HRI.out).mono ?_; rw [HAT.out]; rintro _ x5 ⟨rfl, hb5⟩; have HS5 : Hid (SE w s e a n cap x5) := SE.keep HS4.out hb5; obtain ⟨c0, c1, c5, c6, c7, c8, d0, d1, d2, d3, d4⟩ := SE.cs HS5.out HK.out; obtain ⟨lb, lo, hlo, hlt, q0, q1, q2, q3⟩ := HS5.out.ln.cells kk p HG.out; rw [hlo] at c5; clear hlo; clear hb5))
            go_quiet (fail)
            go_wp2
            go_quiet (fail)
            go_wp2
            go_quiet (fail)
            go_wp2
            go_ret
            exact ⟨by rw [HR.out]; rfl, (SE.drewN (SE.drewN (SE.drewN HS5.out _) _) _).bel⟩
end Go.Proofs.YtldbdhhbmnbmaaaGreat
