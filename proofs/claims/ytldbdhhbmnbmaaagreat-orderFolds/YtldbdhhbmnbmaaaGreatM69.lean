/- Own texts, joined: Rj9, Rj10, Rj2. -/
import Derived.Test.YtldbdhhbmnbmaaaGreatM67
import Derived.Deep.QuietTactic
import Derived.BigQuiet
import Derived.Deep.DeepCutAuto
namespace Go.Proofs.YtldbdhhbmnbmaaaGreat
open Go.ChangeShapes Go.WideShapes Go.ChangeAt Go.RowKit
set_option linter.unusedVariables false
set_option linter.unusedSimpArgs false
set_option maxRecDepth 20000 in
set_option maxHeartbeats 16000000 in
theorem rj_9 (s : St) (e : Ev) (a : Option Addr) (n cap : Nat) (w : World) (hn : s.lines.length = n) (hl : Lns w a s.lines) (hm : n ≤ maxLen) (hv : vldB s = true) (hc : chk 5 e = 0) (he : s.events ≠ 1099511627776) (ho : e.order = s.order) (hk : e.kind = 9) :
    Calls Tryz.prog 15 #[.agg (stA s (.slice a n cap)), .agg (evA e)] w fun r w' => r = .returned (.int .i64 (judS s e)) ∧ Below w.heap.size w w' := by
  have hJ := jud_std hv hc he ho hk
  obtain ⟨W, hW, HS⟩ := se_new w s e a n cap hl
  have HS1 : Hid (SE w s e a n cap W) := HS
  have HN : Hid (s.lines.length = n) := hn
  have HK : Hid (e.kind = 9) := hk
  have HV : Hid (vldB s = true) := hv
  have HC : Hid (chk 5 e = 0) := hc
  have hr := right_of hc
  have qq0 : 0 ≤ e.qty := by have := hr.qty0; simpa [loQ] using this
  have qq1 : e.qty ≤ 10000 := hr.qty1
  have pp0 : 0 ≤ e.price := hr.price0
  have pp1 : e.price ≤ 1000000000000000 := by have := hr.price1; have h5 : hiP 5 ≤ 1000000000000000 := (by decide); omega
  have heb : (s.events == 1099511627776) = false := by simpa using he
  have hob : (e.order != s.order) = false := by simpa using ho
  have HRI : Hid (linesFrom (-1) s.lines = true) := (linesB_from (vl_of hv).lines).2
  have HLF : Hid (linesB s.lines = true) := (vl_of hv).lines
  have HJ : Hid (judS s e = if stdR s 9 ≠ 0 then stdR s 9 else refR s e) := hJ
  have HKR : Hid (e.kind = 9) := hk
  clear hJ hn hl hv hc he hk hr HS
  go_enter Tryz.func15, Tryz.ntmps15
  go_upto_region 5 with (first | ((with_reducible refine guard_load 25 ?_); refine wpList_load_st rfl _ rfl HS1.out.st rfl ?_) | (go_at_call 29; refine (rvalid_any s a n cap _ HN.out HS1.out.ln hm).mono ?_; rw [HV.out]; rintro _ x2 ⟨rfl, hb2⟩; have HS2 : Hid (SE w s e a n cap x2) := SE.keep HS1.out hb2; clear hb2) | ((with_reducible refine guard_loadg 28 ?_); refine wpList_load_evg rfl _ rfl HS2.out.ev rfl ?_) | (go_at_call 30; refine (rcheck_ev 5 e _).mono ?_; rw [HC.out]; rintro _ x3 ⟨rfl, hb3⟩; have HS3 : Hid (SE w s e a n cap x3) := SE.keep HS2.out hb3; obtain ⟨c0, c1, c5, c6, c7, c8, d0, d1, d2, d3, d4⟩ := SE.cs HS3.out HK.out; clear hb3))
  by_cases hst : s.status = 0
  · have hs0 : (s.status == 0) = true := by simpa using hst
    have hs1 : (s.status != 0) = false := by simpa using hst
    have hsr : stdR s 9 = 3 := by unfold stdR; simp [hst]
    have HR : Hid (judS s e = 3) := by show _ = _; rw [HJ.out, hsr, if_pos (by decide)]
    clear hsr hst
    go_wp2
    go_ret
    exact ⟨by rw [HR.out]; rfl, HS3.out.bel⟩
  · have hs0 : (s.status == 0) = false := by simpa using hst
    have hs1 : (s.status != 0) = true := by simpa using hst
    cases hU : useB s 9 with
    | false =>
      have HU : Hid (useB s 9 = false) := hU
      have hsr : stdR s 9 = 5 := by unfold stdR; simp [hst, hU]
      have HR : Hid (judS s e = 5) := by show _ = _; rw [HJ.out, hsr, if_pos (by decide)]
      clear hsr hst hU
      go_wp2_with (first | ((with_reducible refine guard_load 25 ?_); first | refine wpList_load_st rfl _ rfl HS4.out.st rfl ?_ | refine wpList_load_st rfl _ rfl HS3.out.st rfl ?_) | (go_at_call 31; refine (ruse_any s 9 a n cap _ HN.out HS3.out.ln hm HV.out (by decide) (by decide)).mono ?_; rw [HU.out]; rintro _ x4 ⟨rfl, hb4⟩; have HS4 : Hid (SE w s e a n cap x4) := SE.keep HS3.out hb4; obtain ⟨c0, c1, c5, c6, c7, c8, d0, d1, d2, d3, d4⟩ := SE.cs HS4.out HK.out; clear hb4))
      go_ret
      exact ⟨by rw [HR.out]; rfl, HS4.out.bel⟩
    | true =>
      have HU : Hid (useB s 9 = true) := hU
      have hsr : stdR s 9 = 0 := by unfold stdR; simp [hst, hU]
      clear hU
      have HR : Hid (judS s e = 0) := by show _ = _; rw [HJ.out, hsr, if_neg (by decide)]; unfold refR; simp [HKR.out]
      obtain ⟨iv, hiv⟩ : ∃ iv, atV s.lines e.item = iv := ⟨_, rfl⟩
      have HAT : Hid (atV s.lines e.item = iv) := hiv
      clear hiv hsr hst
      go_wp2_with (first | ((with_reducible refine guard_load 25 ?_); first | refine wpList_load_st rfl _ rfl HS4.out.st rfl ?_ | refine wpList_load_st rfl _ rfl HS3.out.st rfl ?_) | (go_at_call 31; refine (ruse_any s 9 a n cap _ HN.out HS3.out.ln hm HV.out (by decide) (by decide)).mono ?_; rw [HU.out]; rintro _ x4 ⟨rfl, hb4⟩; have HS4 : Hid (SE w s e a n cap x4) := SE.keep HS3.out hb4; obtain ⟨c0, c1, c5, c6, c7, c8, d0, d1, d2, d3, d4⟩ := SE.cs HS4.out HK.out; clear hb4) | (go_at_call 18; refine (rat_any s e.item a n cap _ HN.out HS4.out.ln hm HRI.out).mono ?_; rw [HAT.out]; rintro _ x5 ⟨rfl, hb5⟩; have HS5 : Hid (SE w s e a n cap x5) := SE.keep HS4.out hb5; obtain ⟨c0, c1, c5, c6, c7, c8, d0, d1, d2, d3, d4⟩ := SE.cs HS5.out HK.out; clear hb5))
      go_quiet (fail)
      go_wp2
      go_quiet (fail)
      go_wp2
      go_quiet (fail)
      go_wp2
      go_ret
      exact ⟨by rw [HR.out]; rfl, (SE.drewN (SE.drewN (SE.drewN HS5.out _) _) _).bel⟩
end Go.Proofs.YtldbdhhbmnbmaaaGreat
namespace Go.Proofs.YtldbdhhbmnbmaaaGreat
open Go.ChangeShapes Go.WideShapes Go.ChangeAt Go.RowKit
set_option linter.unusedVariables false
set_option linter.unusedSimpArgs false
set_option maxRecDepth 20000 in
set_option maxHeartbeats 16000000 in
theorem rj_10 (s : St) (e : Ev) (a : Option Addr) (n cap : Nat) (w : World) (hn : s.lines.length = n) (hl : Lns w a s.lines) (hm : n ≤ maxLen) (hv : vldB s = true) (hc : chk 5 e = 0) (he : s.events ≠ 1099511627776) (ho : e.order = s.order) (hk : e.kind = 10) :
    Calls Tryz.prog 15 #[.agg (stA s (.slice a n cap)), .agg (evA e)] w fun r w' => r = .returned (.int .i64 (judS s e)) ∧ Below w.heap.size w w' := by
  have hJ := jud_std hv hc he ho hk
  obtain ⟨W, hW, HS⟩ := se_new w s e a n cap hl
  have HS1 : Hid (SE w s e a n cap W) := HS
  have HN : Hid (s.lines.length = n) := hn
  have HK : Hid (e.kind = 10) := hk
  have HV : Hid (vldB s = true) := hv
  have HC : Hid (chk 5 e = 0) := hc
  have hr := right_of hc
  have qq0 : 0 ≤ e.qty := by have := hr.qty0; simpa [loQ] using this
  have qq1 : e.qty ≤ 10000 := hr.qty1
  have pp0 : 0 ≤ e.price := hr.price0
  have pp1 : e.price ≤ 1000000000000000 := by have := hr.price1; have h5 : hiP 5 ≤ 1000000000000000 := (by decide); omega
  have heb : (s.events == 1099511627776) = false := by simpa using he
  have hob : (e.order != s.order) = false := by simpa using ho
  have HRI : Hid (linesFrom (-1) s.lines = true) := (linesB_from (vl_of hv).lines).2
  have HLF : Hid (linesB s.lines = true) := (vl_of hv).lines
  have HJ : Hid (judS s e = if stdR s 10 ≠ 0 then stdR s 10 else refR s e) := hJ
  have HKR : Hid (e.kind = 10) := hk
  clear hJ hn hl hv hc he hk hr HS
  go_enter Tryz.func15, Tryz.ntmps15
  go_upto_region 5 with (first | ((with_reducible refine guard_load 25 ?_); refine wpList_load_st rfl _ rfl HS1.out.st rfl ?_) | (go_at_call 29; refine (rvalid_any s a n cap _ HN.out HS1.out.ln hm).mono ?_; rw [HV.out]; rintro _ x2 ⟨rfl, hb2⟩; have HS2 : Hid (SE w s e a n cap x2) := SE.keep HS1.out hb2; clear hb2) | ((with_reducible refine guard_loadg 28 ?_); refine wpList_load_evg rfl _ rfl HS2.out.ev rfl ?_) | (go_at_call 30; refine (rcheck_ev 5 e _).mono ?_; rw [HC.out]; rintro _ x3 ⟨rfl, hb3⟩; have HS3 : Hid (SE w s e a n cap x3) := SE.keep HS2.out hb3; obtain ⟨c0, c1, c5, c6, c7, c8, d0, d1, d2, d3, d4⟩ := SE.cs HS3.out HK.out; clear hb3))
  by_cases hst : s.status = 0
  · have hs0 : (s.status == 0) = true := by simpa using hst
    have hs1 : (s.status != 0) = false := by simpa using hst
    have hsr : stdR s 10 = 3 := by unfold stdR; simp [hst]
    have HR : Hid (judS s e = 3) := by show _ = _; rw [HJ.out, hsr, if_pos (by decide)]
    clear hsr hst
    go_wp2
    go_ret
    exact ⟨by rw [HR.out]; rfl, HS3.out.bel⟩
  · have hs0 : (s.status == 0) = false := by simpa using hst
    have hs1 : (s.status != 0) = true := by simpa using hst
    cases hU : useB s 10 with
    | false =>
      have HU : Hid (useB s 10 = false) := hU
      have hsr : stdR s 10 = 5 := by unfold stdR; simp [hst, hU]
      have HR : Hid (judS s e = 5) := by show _ = _; rw [HJ.out, hsr, if_pos (by decide)]
      clear hsr hst hU
      go_wp2_with (first | ((with_reducible refine guard_load 25 ?_); first | refine wpList_load_st rfl _ rfl HS4.out.st rfl ?_ | refine wpList_load_st rfl _ rfl HS3.out.st rfl ?_) | (go_at_call 31; refine (ruse_any s 10 a n cap _ HN.out HS3.out.ln hm HV.out (by decide) (by decide)).mono ?_; rw [HU.out]; rintro _ x4 ⟨rfl, hb4⟩; have HS4 : Hid (SE w s e a n cap x4) := SE.keep HS3.out hb4; obtain ⟨c0, c1, c5, c6, c7, c8, d0, d1, d2, d3, d4⟩ := SE.cs HS4.out HK.out; clear hb4))
      go_ret
      exact ⟨by rw [HR.out]; rfl, HS4.out.bel⟩
    | true =>
      have HU : Hid (useB s 10 = true) := hU
      have hsr : stdR s 10 = 0 := by unfold stdR; simp [hst, hU]
      clear hU
      have HR : Hid (judS s e = 0) := by show _ = _; rw [HJ.out, hsr, if_neg (by decide)]; unfold refR; simp [HKR.out]
      obtain ⟨iv, hiv⟩ : ∃ iv, atV s.lines e.item = iv := ⟨_, rfl⟩
      have HAT : Hid (atV s.lines e.item = iv) := hiv
      clear hiv hsr hst
      go_wp2_with (first | ((with_reducible refine guard_load 25 ?_); first | refine wpList_load_st rfl _ rfl HS4.out.st rfl ?_ | refine wpList_load_st rfl _ rfl HS3.out.st rfl ?_) | (go_at_call 31; refine (ruse_any s 10 a n cap _ HN.out HS3.out.ln hm HV.out (by decide) (by decide)).mono ?_; rw [HU.out]; rintro _ x4 ⟨rfl, hb4⟩; have HS4 : Hid (SE w s e a n cap x4) := SE.keep HS3.out hb4; obtain ⟨c0, c1, c5, c6, c7, c8, d0, d1, d2, d3, d4⟩ := SE.cs HS4.out HK.out; clear hb4) | (go_at_call 18; refine (rat_any s e.item a n cap _ HN.out HS4.out.ln hm HRI.out).mono ?_; rw [HAT.out]; rintro _ x5 ⟨rfl, hb5⟩; have HS5 : Hid (SE w s e a n cap x5) := SE.keep HS4.out hb5; obtain ⟨c0, c1, c5, c6, c7, c8, d0, d1, d2, d3, d4⟩ := SE.cs HS5.out HK.out; clear hb5))
      go_quiet (fail)
      go_wp2
      go_quiet (fail)
      go_wp2
      go_quiet (fail)
      go_wp2
      go_ret
      exact ⟨by rw [HR.out]; rfl, (SE.drewN (SE.drewN (SE.drewN HS5.out _) _) _).bel⟩
end Go.Proofs.YtldbdhhbmnbmaaaGreat
namespace Go.Proofs.YtldbdhhbmnbmaaaGreat
open Go.ChangeShapes Go.WideShapes Go.ChangeAt Go.RowKit
set_option linter.unusedVariables false
set_option linter.unusedSimpArgs false
set_option maxRecDepth 20000 in
set_option maxHeartbeats 16000000 in
theorem rj_2 (s : St) (e : Ev) (a : Option Addr) (n cap : Nat) (w : World) (hn : s.lines.length = n) (hl : Lns w a s.lines) (hm : n ≤ maxLen) (hv : vldB s = true) (hc : chk 5 e = 0) (he : s.events ≠ 1099511627776) (ho : e.order = s.order) (hk : e.kind = 2) :
    Calls Tryz.prog 15 #[.agg (stA s (.slice a n cap)), .agg (evA e)] w fun r w' => r = .returned (.int .i64 (judS s e)) ∧ Below w.heap.size w w' := by
  have hJ := jud_std hv hc he ho hk
  obtain ⟨W, hW, HS⟩ := se_new w s e a n cap hl
  have HS1 : Hid (SE w s e a n cap W) := HS
  have HN : Hid (s.lines.length = n) := hn
  have HK : Hid (e.kind = 2) := hk
  have HV : Hid (vldB s = true) := hv
  have HC : Hid (chk 5 e = 0) := hc
  have hr := right_of hc
  have qq0 : 0 ≤ e.qty := by have := hr.qty0; simpa [loQ] using this
  have qq1 : e.qty ≤ 10000 := hr.qty1
  have pp0 : 0 ≤ e.price := hr.price0
  have pp1 : e.price ≤ 1000000000000000 := by have := hr.price1; have h5 : hiP 5 ≤ 1000000000000000 := (by decide); omega
  have heb : (s.events == 1099511627776) = false := by simpa using he
  have hob : (e.order != s.order) = false := by simpa using ho
  have HRI : Hid (linesFrom (-1) s.lines = true) := (linesB_from (vl_of hv).lines).2
  have HLF : Hid (linesB s.lines = true) := (vl_of hv).lines
  have HJ : Hid (judS s e = if stdR s 2 ≠ 0 then stdR s 2 else refR s e) := hJ
  have HKR : Hid (e.kind = 2) := hk
  clear hJ hn hl hv hc he hk hr HS
  go_enter Tryz.func15, Tryz.ntmps15
  go_upto_region 5 with (first | ((with_reducible refine guard_load 25 ?_); refine wpList_load_st rfl _ rfl HS1.out.st rfl ?_) | (go_at_call 29; refine (rvalid_any s a n cap _ HN.out HS1.out.ln hm).mono ?_; rw [HV.out]; rintro _ x2 ⟨rfl, hb2⟩; have HS2 : Hid (SE w s e a n cap x2) := SE.keep HS1.out hb2; clear hb2) | ((with_reducible refine guard_loadg 28 ?_); refine wpList_load_evg rfl _ rfl HS2.out.ev rfl ?_) | (go_at_call 30; refine (rcheck_ev 5 e _).mono ?_; rw [HC.out]; rintro _ x3 ⟨rfl, hb3⟩; have HS3 : Hid (SE w s e a n cap x3) := SE.keep HS2.out hb3; obtain ⟨c0, c1, c5, c6, c7, c8, d0, d1, d2, d3, d4⟩ := SE.cs HS3.out HK.out; clear hb3))
  by_cases hst : s.status = 0
  · have hs0 : (s.status == 0) = true := by simpa using hst
    have hs1 : (s.status != 0) = false := by simpa using hst
    have hsr : stdR s 2 = 3 := by unfold stdR; simp [hst]
    have HR : Hid (judS s e = 3) := by show _ = _; rw [HJ.out, hsr, if_pos (by decide)]
    clear hsr hst
    go_wp2
    go_ret
    exact ⟨by rw [HR.out]; rfl, HS3.out.bel⟩
  · have hs0 : (s.status == 0) = false := by simpa using hst
    have hs1 : (s.status != 0) = true := by simpa using hst
    cases hU : useB s 2 with
    | false =>
      have HU : Hid (useB s 2 = false) := hU
      have hsr : stdR s 2 = 5 := by unfold stdR; simp [hst, hU]
      have HR : Hid (judS s e = 5) := by show _ = _; rw [HJ.out, hsr, if_pos (by decide)]
      clear hsr hst hU
      go_wp2_with (first | ((with_reducible refine guard_load 25 ?_); first | refine wpList_load_st rfl _ rfl HS4.out.st rfl ?_ | refine wpList_load_st rfl _ rfl HS3.out.st rfl ?_) | (go_at_call 31; refine (ruse_any s 2 a n cap _ HN.out HS3.out.ln hm HV.out (by decide) (by decide)).mono ?_; rw [HU.out]; rintro _ x4 ⟨rfl, hb4⟩; have HS4 : Hid (SE w s e a n cap x4) := SE.keep HS3.out hb4; obtain ⟨c0, c1, c5, c6, c7, c8, d0, d1, d2, d3, d4⟩ := SE.cs HS4.out HK.out; clear hb4))
      go_ret
      exact ⟨by rw [HR.out]; rfl, HS4.out.bel⟩
    | true =>
      have HU : Hid (useB s 2 = true) := hU
      have hsr : stdR s 2 = 0 := by unfold stdR; simp [hst, hU]
      clear hU
      have hrf : refR s e = refAdd s e := by unfold refR; simp [HKR.out]
      by_cases hq0 : e.qty = 0
      · have hq0b : (e.qty == 0) = true := by simpa using hq0
        have HR : Hid (judS s e = 6) := by show _ = _; rw [HJ.out, hsr, if_neg (by decide), hrf]; unfold refAdd; rw [if_pos hq0]
        clear hsr hst hrf hq0
        go_wp2_with (first | ((with_reducible refine guard_load 25 ?_); first | refine wpList_load_st rfl _ rfl HS4.out.st rfl ?_ | refine wpList_load_st rfl _ rfl HS3.out.st rfl ?_) | (go_at_call 31; refine (ruse_any s 2 a n cap _ HN.out HS3.out.ln hm HV.out (by decide) (by decide)).mono ?_; rw [HU.out]; rintro _ x4 ⟨rfl, hb4⟩; have HS4 : Hid (SE w s e a n cap x4) := SE.keep HS3.out hb4; obtain ⟨c0, c1, c5, c6, c7, c8, d0, d1, d2, d3, d4⟩ := SE.cs HS4.out HK.out; clear hb4))
        go_ret
        exact ⟨by rw [HR.out]; rfl, HS4.out.bel⟩
      · have hq0b : (e.qty == 0) = false := by simpa using hq0
        cases hO : lnAt s.lines e.item with
        | none =>
          have HAT : Hid (atV s.lines e.item = -1) := by show _ = _; unfold atV; rw [hO]
          by_cases h16 : n = 16
          · have h16b : ((n : Int) == 16) = true := by simp; omega
            have HR : Hid (judS s e = 9) := by show _ = _; rw [HJ.out, hsr, if_neg (by decide), hrf]; unfold refAdd; rw [if_neg hq0, hO]; simp [HN.out, h16]
            clear hsr hst hrf hq0 hO h16
            go_wp2_with (first | ((with_reducible refine guard_load 25 ?_); first | refine wpList_load_st rfl _ rfl HS4.out.st rfl ?_ | refine wpList_load_st rfl _ rfl HS3.out.st rfl ?_) | (go_at_call 31; refine (ruse_any s 2 a n cap _ HN.out HS3.out.ln hm HV.out (by decide) (by decide)).mono ?_; rw [HU.out]; rintro _ x4 ⟨rfl, hb4⟩; have HS4 : Hid (SE w s e a n cap x4) := SE.keep HS3.out hb4; obtain ⟨c0, c1, c5, c6, c7, c8, d0, d1, d2, d3, d4⟩ := SE.cs HS4.out HK.out; clear hb4) | (go_at_call 18; refine (rat_any s e.item a n cap _ HN.out HS4.out.ln hm HRI.out).mono ?_; rw [HAT.out]; rintro _ x5 ⟨rfl, hb5⟩; have HS5 : Hid (SE w s e a n cap x5) := SE.keep HS4.out hb5; obtain ⟨c0, c1, c5, c6, c7, c8, d0, d1, d2, d3, d4⟩ := SE.cs HS5.out HK.out; clear hb5))
            go_quiet (fail)
            go_wp2
            go_ret
            exact ⟨by rw [HR.out]; rfl, (SE.drewN HS5.out _).bel⟩
          · have h16b : ((n : Int) == 16) = false := by simp; omega
            have HR : Hid (judS s e = 0) := by show _ = _; rw [HJ.out, hsr, if_neg (by decide), hrf]; unfold refAdd; rw [if_neg hq0, hO]; simp [HN.out, h16]
            clear hsr hst hrf hq0 hO h16
            go_wp2_with (first | ((with_reducible refine guard_load 25 ?_); first | refine wpList_load_st rfl _ rfl HS4.out.st rfl ?_ | refine wpList_load_st rfl _ rfl HS3.out.st rfl ?_) | (go_at_call 31; refine (ruse_any s 2 a n cap _ HN.out HS3.out.ln hm HV.out (by decide) (by decide)).mono ?_; rw [HU.out]; rintro _ x4 ⟨rfl, hb4⟩; have HS4 : Hid (SE w s e a n cap x4) := SE.keep HS3.out hb4; obtain ⟨c0, c1, c5, c6, c7, c8, d0, d1, d2, d3, d4⟩ := SE.cs HS4.out HK.out; clear hb4) | (go_at_call 18; refine (rat_any s e.item a n cap _ HN.out HS4.out.ln hm HRI.out).mono ?_; rw [HAT.out]; rintro _ x5 ⟨rfl, hb5⟩; have HS5 : Hid (SE w s e a n cap x5) := SE.keep HS4.out hb5; obtain ⟨c0, c1, c5, c6, c7, c8, d0, d1, d2, d3, d4⟩ := SE.cs HS5.out HK.out; clear hb5))
            go_quiet (fail)
            go_wp2
            go_quiet (fail)
            go_wp2
            go_quiet (fail)
            go_wp2
            go_ret
            exact ⟨by rw [HR.out]; rfl, (SE.drewN (SE.drewN (SE.drewN HS5.out _) _) _).bel⟩
        | some p =>
          obtain ⟨g1, g2⟩ := lnAt_some hO
          obtain ⟨kk, hkk⟩ : ∃ kk, lbI s.lines e.item = kk := ⟨_, rfl⟩
          have HAT : Hid (atV s.lines e.item = (kk : Int)) := by show _ = _; unfold atV; rw [hO]; simp only [hkk]
          rw [hkk] at g1
          have fp := (linesB_facts HLF.out).2 _ _ g1
          have HG : Hid (s.lines[kk]? = some p) := g1
          have hkn : kk < n := by have := ln_lt g1; have := HN.out; omega
          have hk0 : decide ((kk : Int) < 0) = false := by simp
          have hk1 : decide ((0 : Int) ≤ (kk : Int)) = true := by simp
          have f1 : 1 ≤ p.qty := by omega
          have f2 : p.qty ≤ 100000 := by omega
          have f3 : 0 ≤ p.shipped := by omega
          have f4 : p.shipped ≤ p.qty := by omega
          cases hpp : (p.price != e.price) with
          | true =>
            have HR : Hid (judS s e = 8) := by show _ = _; rw [HJ.out, hsr, if_neg (by decide), hrf]; unfold refAdd; rw [if_neg hq0, hO]; simp only []; rw [if_pos (by simpa using hpp)]
            clear hsr hst hrf hq0 hO g1 g2 hkk fp
            go_wp2_with (first | ((with_reducible refine guard_load 25 ?_); first | refine wpList_load_st rfl _ rfl HS4.out.st rfl ?_ | refine wpList_load_st rfl _ rfl HS3.out.st rfl ?_) | (go_at_call 31; refine (ruse_any s 2 a n cap _ HN.out HS3.out.ln hm HV.out (by decide) (by decide)).mono ?_; rw [HU.out]; rintro _ x4 ⟨rfl, hb4⟩; have HS4 : Hid (SE w s e a n cap x4) := SE.keep HS3.out hb4; obtain ⟨c0, c1, c5, c6, c7, c8, d0, d1, d2, d3, d4⟩ := SE.cs HS4.out HK.out; clear hb4) | (go_at_call 18; refine (rat_any s e.item a n cap _ HN.out HS4.out.ln hm HRI.out).mono ?_; rw [HAT.out]; rintro _ x5 ⟨rfl, hb5⟩; have HS5 : Hid (SE w s e a n cap x5) := SE.keep HS4.out hb5; obtain ⟨c0, c1, c5, c6, c7, c8, d0, d1, d2, d3, d4⟩ := SE.cs HS5.out HK.out; obtain ⟨lb, lo, hlo, hlt, q0, q1, q2, q3⟩ := HS5.out.ln.cells kk p HG.out; rw [hlo] at c5; clear hlo; clear hb5))
            go_quiet (fail)
            go_wp2
            go_ret
            exact ⟨by rw [HR.out]; rfl, (SE.drewN HS5.out _).bel⟩
          | false =>
            obtain ⟨S, hS⟩ : ∃ S, p.qty + e.qty = S := ⟨_, rfl⟩
            have hwS : IntKind.i64.wrap (p.qty + e.qty) = S := by rw [hS]; exact wrap_id (by omega) (by omega)
            by_cases hg : 100000 < S
            · have hgb : decide (100000 < S) = true := by simpa using hg
              have HR : Hid (judS s e = 10) := by show _ = _; rw [HJ.out, hsr, if_neg (by decide), hrf]; unfold refAdd; rw [if_neg hq0, hO]; simp only []; rw [if_neg (by simpa using hpp), hS, if_pos hg]
              clear hsr hst hrf hq0 hO g1 g2 hkk fp hS hg
              go_wp2_with (first | ((with_reducible refine guard_load 25 ?_); first | refine wpList_load_st rfl _ rfl HS4.out.st rfl ?_ | refine wpList_load_st rfl _ rfl HS3.out.st rfl ?_) | (go_at_call 31; refine (ruse_any s 2 a n cap _ HN.out HS3.out.ln hm HV.out (by decide) (by decide)).mono ?_; rw [HU.out]; rintro _ x4 ⟨rfl, hb4⟩; have HS4 : Hid (SE w s e a n cap x4) := SE.keep HS3.out hb4; obtain ⟨c0, c1, c5, c6, c7, c8, d0, d1, d2, d3, d4⟩ := SE.cs HS4.out HK.out; clear hb4) | (go_at_call 18; refine (rat_any s e.item a n cap _ HN.out HS4.out.ln hm HRI.out).mono ?_; rw [HAT.out]; rintro _ x5 ⟨rfl, hb5⟩; have HS5 : Hid (SE w s e a n cap x5) := SE.keep HS4.out hb5; obtain ⟨c0, c1, c5, c6, c7, c8, d0, d1, d2, d3, d4⟩ := SE.cs HS5.out HK.out; obtain ⟨lb, lo, hlo, hlt, q0, q1, q2, q3⟩ := HS5.out.ln.cells kk p HG.out; rw [hlo] at c5; clear hlo; clear hb5))
              go_quiet (fail)
              go_wp2
              go_quiet (fail)
              go_wp2
              go_ret
              exact ⟨by rw [HR.out]; rfl, (SE.drewN (SE.drewN HS5.out _) _).bel⟩
            · have hgb : decide (100000 < S) = false := by simpa using hg
              have HR : Hid (judS s e = 0) := by show _ = _; rw [HJ.out, hsr, if_neg (by decide), hrf]; unfold refAdd; rw [if_neg hq0, hO]; simp only []; rw [if_neg (by simpa using hpp), hS, if_neg hg]
              clear hsr hst hrf hq0 hO g1 g2 hkk fp hS hg
              go_wp2_with (first | ((with_reducible refine guard_load 25 ?_); first | refine wpList_load_st rfl _ rfl HS4.out.st rfl ?_ | refine wpList_load_st rfl _ rfl HS3.out.st rfl ?_) | (go_at_call 31; refine (ruse_any s 2 a n cap _ HN.out HS3.out.ln hm HV.out (by decide) (by decide)).mono ?_; rw [HU.out]; rintro _ x4 ⟨rfl, hb4⟩; have HS4 : Hid (SE w s e a n cap x4) := SE.keep HS3.out hb4; obtain ⟨c0, c1, c5, c6, c7, c8, d0, d1, d2, d3, d4⟩ := SE.cs HS4.out HK.out; clear hb4) | (go_at_call 18; refine (rat_any s e.item a n cap _ HN.out HS4.out.ln hm HRI.out).mono ?_; rw [HAT.out]; rintro _ x5 ⟨rfl, hb5⟩; have HS5 : Hid (SE w s e a n cap x5) := SE.keep HS4.out hb5; obtain ⟨c0, c1, c5, c6, c7, c8, d0, d1, d2, d3, d4⟩ := SE.cs HS5.out HK.out; obtain ⟨lb, lo, hlo, hlt, q0, q1, q2, q3⟩ := HS5.out.ln.cells kk p HG.out; rw [hlo] at c5; clear hlo; clear hb5))
              go_quiet (fail)
              go_wp2
              go_quiet (fail)
              go_wp2
              go_quiet (fail)
              go_wp2
              go_ret
              exact ⟨by rw [HR.out]; rfl, (SE.drewN (SE.drewN (SE.drewN HS5.out _) _) _).bel⟩
end Go.Proofs.YtldbdhhbmnbmaaaGreat
