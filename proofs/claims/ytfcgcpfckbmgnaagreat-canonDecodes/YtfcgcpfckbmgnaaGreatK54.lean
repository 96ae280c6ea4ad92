/- Own texts, joined: Rt9. -/
import Derived.Test.YtfcgcpfckbmgnaaGreatK53
import Derived.Test.YtfcgcpfckbmgnaaGreatK51
import Derived.Deep.RegionHeld3
import Derived.Deep.DeepCutAuto
namespace Go.Proofs.YtfcgcpfckbmgnaaGreat
open Go.ChangeShapes Go.WideShapes Go.ChangeAt Go.RowKit
set_option linter.unusedVariables false
theorem fl_split {fs : List Fld} {k : Nat} {f : Fld} (h : fs[k]? = some f) : fs = fs.take k ++ f :: fs.drop (k + 1) := by
  conv => lhs; rw [← List.take_append_drop k fs]
  rw [ln_drop fs k f h]
theorem fl_fresh {fs : List Fld} (hp : fs.Pairwise (fun f g => f.tag < g.tag)) {k : Nat} {f : Fld} (h : fs[k]? = some f) : ∀ g ∈ fs.take k, g.tag < f.tag := by
  rw [fl_split h, List.pairwise_append] at hp
  intro g hg
  exact hp.2.2 g hg f (List.mem_cons_self ..)
set_option maxRecDepth 20000 in
set_option maxHeartbeats 8000000 in
theorem rdec09_yes (l : List Nat) (a : Option Addr) (n cap : Nat) (w : World) (hn : l.length = n) (hb : Bytes w a l) (hcap : n ≤ cap) (hm : n ≤ maxLen) (he : (recs l).2.2 = 0) :
    Calls Tryz.prog 6 #[.slice a n cap] w fun r w' => CdecPost w (cdec l) r w' := by
  have hl := lt_allC hb.1
  obtain ⟨r1, r2, r3, r4⟩ := recs_ok l hl he
  obtain ⟨r5, r6⟩ := encs_rise _ _ _ _ r2
  obtain ⟨i0, hi, hz0, hz1, hz2⟩ := info_parts Tryz.infoLn
  have HPW : Hid ((recs l).1.Pairwise (fun f g => f.tag < g.tag)) := r5
  have HFR : Hid (∀ f ∈ (recs l).1, FRight f ∧ 1 ≤ f.tag ∧ f.tag ≤ 31 ∧ nz f = true) := fun f hf => by
    have h3 := flt_nz (F := f) (A := 0) (by have := (r6 f hf).2.1; omega) (r6 f hf).2.1 (r6 f hf).2.2.1 (fun _ => (r3 f hf).2.1)
    rw [(r6 f hf).2.2.2] at h3
    refine ⟨r3 f hf, (r6 f hf).2.1, (r6 f hf).2.2.1, ?_⟩
    by_cases hn : nz f = true
    · exact hn
    · rw [if_neg hn] at h3; cases h3
  obtain ⟨W, hW, h0, h1, hbW⟩ := two_z w
  have HW : Hid (_ = W) := hW
  have H0 : Hid (StAt W w.heap.size zeroS (.slice none 0 0)) := h0
  have H1 : Hid (StAt W (w.heap.size + 1) zeroS (.slice none 0 0)) := h1
  have HB : Hid (Below w.heap.size w W) := hbW
  have HBY : Hid (Bytes w a l) := hb
  have HN : Hid (_) := hn
  have HE : Hid (_) := he
  have HI0 : Hid (_) := r1
  have HLN : Hid ((recs l).1.length ≤ 512) := by
    have h1 := encs_len _ _ _ _ (fun f hf => (r3 f hf).1) r2
    show _ ≤ _
    simp only [List.length_nil] at h1
    omega
  have T1 : Hid True := trivial
  have hmk := mk11c
  clear hW h0 h1 hbW hb hn he hl r1 r2 r3 r4 r5 r6
  go_enter Tryz.func6, Tryz.ntmps6
  go_wp2_with (first
    | ((with_reducible refine guard_store 28 ?_); clear T1; rw [show (w.alloc (.cells #[.int .i64 0, .int .i64 0, .int .i64 0, .int .i64 0, .int .i64 0, .slice none 0 0, .int .i64 0, .int .i64 0, .int .i64 0, .int .i64 0, .int .i64 0, .string ⟨#[]⟩] 28)).alloc (.cells #[.int .i64 0, .int .i64 0, .int .i64 0, .int .i64 0, .int .i64 0, .slice none 0 0, .int .i64 0, .int .i64 0, .int .i64 0, .int .i64 0, .int .i64 0, .string ⟨#[]⟩] 28) = W from HW.out]; refine wpList_store_st (s := zeroS) (s2 := zeroS) (a2 := none) (n2 := 0) (c2 := 0) rfl _ _ rfl H1.out rfl rfl ?_; intro x1 z1 z2 z3 z4; have HNN : Hid (StAt x1 (w.heap.size + 1) zeroS (.slice none 0 0)) := z1; have HRR : Hid (StAt x1 w.heap.size zeroS (.slice none 0 0)) := (z3 _ (by omega)).trans H0.out; have HBX : Hid (Below w.heap.size w x1) := z2 _ _ HB.out (by omega); clear z1 z2 z3 z4)
    | (go_at_call 12; refine (rtdec l a n cap _ HN.out (HBY.out.keep HBX.out) hcap hm).mono ?_; unfold DecPost; rw [HE.out, HI0.out]; rintro _ w3 ⟨vv, L, rfl, hL, hR, hb3⟩; obtain ⟨fa, fc, hvv, hF⟩ := hR.fs (fun p hp => by have h9 := (HFR.out p.1 (by rw [hL]; exact List.mem_map_of_mem hp)).1; exact ⟨h9.1, by unfold maxLen; have := h9.2.1; omega⟩); subst hvv; have HL : Hid (_) := hL; have HRW : Hid (Rws w3 x1.heap.size (.slice fa L.length fc) L) := hR; have HFS : Hid (FsAt w3 fa L) := hF; obtain ⟨N, hN⟩ : ∃ N, L.length = N := ⟨_, rfl⟩; have HNL : Hid (L.length = N) := hN; rw [hN]; have HB3 : Hid (Below w.heap.size w w3) := below_next HBX.out hb3; have HN3 : Hid (StAt w3 (w.heap.size + 1) zeroS (.slice none 0 0)) := HNN.out.after hb3; have HR3 : Hid (StAt w3 w.heap.size zeroS (.slice none 0 0)) := HRR.out.after hb3; have hN5 : N ≤ 512 := (by have h9 := HLN.out; rw [hL, List.length_map, hN] at h9; exact h9); clear hL hR hb3 hF hN; obtain ⟨WB, hWB, hwe, hwn, hwb⟩ := rq_box w3; have HWB : Hid ((w3.alloc (.cells #[.int .i64 0, .int .i64 0, .int .i64 0, .int .i64 0, .int .i64 0, .int .i64 0, .int .i64 0, .int .i64 0, .int .i64 0, .int .i64 0, .int .i64 0] 3)).alloc (.cells #[.int .i64 0, .int .i64 0, .int .i64 0, .int .i64 0, .int .i64 0, .slice none 0 0, .int .i64 0, .int .i64 0, .int .i64 0, .int .i64 0, .int .i64 0, .string ⟨#[]⟩] 28) = WB) := hWB; have HWE : Hid (StAt WB (w3.heap.size + 1) zeroS (.slice none 0 0)) := hwe; have HWN : Hid (_) := hwn; have HWL : Hid (Below w3.heap.size w3 WB) := hwb; clear hWB hwe hwn hwb)
    | ((with_reducible refine guard_store 28 ?_); rw [HWB.out]; refine wpList_store_st (s := zeroS) (s2 := zeroS) (a2 := none) (n2 := 0) (c2 := 0) rfl _ _ rfl HWE.out rfl rfl ?_; intro x4 z1 z2 z3 z4; have HRV : Hid (Rq w w3 x4 [] (.slice none 0 0)) := Rq.start HB3.out HR3.out HN3.out (z2 _ _ HWL.out (by omega)) ((z3 _ (by omega)).trans HWN.out) z1; clear z1 z2 z3 z4))
  go_loopw [10, 11, 12, 32] (fun vn vg vo vi wr => ∃ (k : Nat) (v : Value), k ≤ N ∧ vi = .int .i64 k ∧ vn = .int .i64 (12 + ((tx9 ((L.map Prod.fst).take k)).length : Int)) ∧ vg = .bool (gapOf ((L.map Prod.fst).take k)) ∧ vo = .bool (okOf ((L.map Prod.fst).take k)) ∧ Hid (Rq w w3 wr ((L.map Prod.fst).take k) v ∧ Gd ((L.map Prod.fst).take k))) (fun _ _ _ vi _ => N - (intOf vi).toNat)
  case atStart => exact ⟨0, _, Nat.zero_le _, rfl, rfl, rfl, rfl, HRV.out, Gd.nil⟩
  case round =>
    clear HRV HWL HWN HWE HWB H0 H1 HB HW HNN HRR
    obtain ⟨k, v, hk, rfl, rfl, rfl, rfl, HI⟩ := hrel
    obtain ⟨P, hP⟩ : ∃ P, (L.map Prod.fst).take k = P := ⟨_, rfl⟩
    by_cases hkl : k < N
    · obtain ⟨p, hp⟩ : ∃ p, L[k]? = some p := ⟨_, List.getElem?_eq_getElem (by rw [HNL.out]; exact hkl)⟩
      have hpm : p ∈ L := List.mem_of_getElem? hp
      obtain ⟨fb, foff, hab⟩ : ∃ b off, fa = some ⟨b, off, none⟩ := by
        rcases HFS.out.row with h0 | ⟨b2, off2, h1, _⟩
        · rw [h0] at hpm; cases hpm
        · exact ⟨b2, off2, h1⟩
      subst hab
      obtain ⟨c0, c1, c2, c3⟩ := (HFS.out.keep HI.out.1.be3).cells k p hp
      obtain ⟨ad, pcap, hpv, hpc, _⟩ := (HFS.out.fok p hpm).byt
      have HFI : Hid ((L.map Prod.fst)[k]? = some p.1) := by show _ = _; rw [List.getElem?_map, hp]; rfl
      have HOW : Hid (Own w3 x1.heap.size p.2 p.1.bytes) := HRW.out.byt p hpm
      have hfr := HFR.out p.1 (by rw [HL.out]; exact List.mem_map_of_mem hpm)
      obtain ⟨⟨T, tx, nu, by0⟩, bv⟩ := p
      simp only at c0 c1 c2 c3 hpv hfr HFI HOW hpc
      subst hpv
      obtain ⟨hfr1, hfr2, hfr3, hfr4⟩ := hfr
      obtain ⟨t, rfl⟩ := Int.eq_ofNat_of_zero_le (by omega : 0 ≤ T)
      have HB0L : Hid (by0.length ≤ 200) := hfr1.2.1
      obtain ⟨M, hM⟩ : ∃ M, by0.length = M := ⟨_, rfl⟩
      have HM : Hid (by0.length = M) := hM
      rw [hM] at c3 HOW hpc
      have HNU : Hid (nu ≤ 18446744073709551615) := hfr1.1
      have HSP : Hid (L.map Prod.fst = (L.map Prod.fst).take k ++ ⟨(t : Int), tx, nu, by0⟩ :: (L.map Prod.fst).drop (k + 1)) := fl_split HFI.out
      have HFS2 : Hid (∀ g ∈ (L.map Prod.fst).take k, g.tag < (⟨(t : Int), tx, nu, by0⟩ : Fld).tag) := fl_fresh (by rw [← HL.out]; exact HPW.out) HFI.out
      have HTK : Hid ((L.map Prod.fst).take (k + 1) = (L.map Prod.fst).take k ++ [⟨(t : Int), tx, nu, by0⟩]) := ln_take _ _ _ HFI.out
      have HT : Hid (1 ≤ t ∧ t ≤ 31) := ⟨by omega, by omega⟩
      have HNZ : Hid (nz (⟨(t : Int), tx, nu, by0⟩ : Fld) = true) := hfr4
      have hFA : FldAt (wr.alloc (.cells #[.int .i64 (t : Int), .bool tx, .int .u64 (nu : Int), .slice ad M pcap] 48)) wr.heap.size (t : Int) tx nu (.slice ad M pcap) := FldAt.new wr _ _ _ _
      have HFA : Hid (FldAt (wr.alloc (.cells #[.int .i64 (t : Int), .bool tx, .int .u64 (nu : Int), .slice ad M pcap] 48)) wr.heap.size (t : Int) tx nu (.slice ad M pcap)) := hFA
      have HRA : Hid (Rq w w3 (wr.alloc (.cells #[.int .i64 (t : Int), .bool tx, .int .u64 (nu : Int), .slice ad M pcap] 48)) P v) := by show Rq _ _ _ _ _; rw [← hP]; exact HI.out.1.keep ((Below.refl _ _).alloc (Nat.le_refl _) _)
      have HGD : Hid (Gd P) := by show Gd _; rw [← hP]; exact HI.out.2
      rw [hP]
      rw [hP] at HTK HSP HFS2
      obtain ⟨nn, hnn⟩ : ∃ nn, (tx9 P).length = nn := ⟨_, rfl⟩
      have HNN : Hid ((tx9 P).length = nn) := hnn
      have hn16 : nn ≤ 16 := by have := tx9_len P; omega
      obtain ⟨gp, hgp⟩ : ∃ gp, gapOf P = gp := ⟨_, rfl⟩
      have HGP : Hid (gapOf P = gp) := hgp
      obtain ⟨okk, hok⟩ : ∃ okk, okOf P = okk := ⟨_, rfl⟩
      have HOK : Hid (okOf P = okk) := hok
      rw [hnn, hgp, hok]
      clear hfr1 hfr2 hfr3 hfr4 hM hpm hp hP hnn hgp hok HI
      have hlen : (lnsOf P).length = nn := (lnsOf_len P).trans HNN.out
      obtain ⟨va, vc, hvs, _, hcm, _, _⟩ := HRA.out.own.shape
      rw [hlen] at hvs
      subst hvs
      have HLL : Hid ((lnsOf P).length = nn) := hlen
      clear hlen hcm
      have ht31 : (t : Int) ≤ 31 := by have := HT.out; omega
      have ht0 : (0 : Int) ≤ (t : Int) := by omega
      go_upto_region 14 with fail
      obtain ⟨Y, hY⟩ : ∃ Y, wr.alloc (.cells #[.int .i64 (t : Int), .bool tx, .int .u64 (nu : Int), .slice ad M pcap] 48) = Y := ⟨_, rfl⟩
      rw [hY] at HFA HRA ⊢
      clear hY c0 c1 c2 c3
      obtain ⟨f0, f1, f2, f3⟩ := HFA.out.cells
      by_cases h10 : t ≤ 10
      · have hi10 : (t : Int) ≤ 10 := by omega
        cases tx with
        | true =>
          have HSD : Hid (cdec l = (zeroS, 33)) := cd_wrong HE.out HPW.out (P := P) (R := (L.map Prod.fst).drop (k + 1)) (f := ⟨(t : Int), true, nu, by0⟩) (by show (1 : Int) ≤ (t : Int); have := HT.out; omega) (by rw [HL.out]; exact HSP.out) (.inl ⟨by show (t : Int) ≤ 10; omega, rfl⟩)
          have HNY : Hid (StAt Y (w.heap.size + 1) zeroS (.slice none 0 0)) := HRA.out.non.after HRA.out.be3
          have HRY : Hid (StAt Y w.heap.size zeroS (.slice none 0 0)) := HRA.out.res.after HRA.out.be3
          have HBY1 : Hid (Below w.heap.size w Y) := below_next HRA.out.bel HRA.out.be3
          go_wp2_with (first
            | ((with_reducible refine guard_load 28 ?_); refine wpList_load_st rfl _ rfl HNY.out rfl ?_)
            | ((with_reducible refine guard_store 28 ?_); refine wpList_store_st (s := zeroS) (s2 := zeroS) (a2 := none) (n2 := 0) (c2 := 0) rfl _ _ rfl HRY.out rfl rfl ?_; intro x5 z1 z2 z3 z4))
          rw [HSD.out]
          exact bodyPost_ret (results_st2 rfl _ _ _ _ rfl rfl z1) rfl ⟨_, rfl, OwnL.nil _ _, z2 _ _ HBY1.out (Nat.le_refl _)⟩
        | false =>
          have HTX : Hid (tx9 (P ++ [⟨(t : Int), false, nu, by0⟩]) = tx9 P) := tx9_skip HFS2.out (.inl (by show (t : Int) ≠ 12 + _; rw [HNN.out]; omega))
          have HGO : Hid (gapOf (P ++ [⟨(t : Int), false, nu, by0⟩]) = (gp || decide (11 + ((tx9 P).length : Int) < (t : Int)))) := by show _ = _; rw [gap_skip HTX.out, HGP.out]
          have HGN : Hid (Gd (P ++ [⟨(t : Int), false, nu, by0⟩])) := HGD.out.skip HTX.out (fun h => rfl) (fun h => by exfalso; have h9 : (t : Int) = 11 := h; omega) (fun h => by exfalso; have h9 : (t : Int) = 12 + _ := h; omega)
          have HNEW : Hid (Rq w w3 (Y.setCell ⟨w3.heap.size, t, none⟩ (.int .i64 (capN nu))) (P ++ [⟨(t : Int), false, nu, by0⟩]) (.slice va nn vc)) := HRA.out.put HFS2.out t rfl (by omega) rfl HTX.out
          have hc4 := HRA.out.num.row t (by rw [ns_len]; omega)
          have hf4 := HRA.out.num.fro t
          have ht11 : (t : Int) < 11 := by omega
          go_wp2
          go_region_with (go_at_call 13; refine (clamp9_any nu _).mono ?_; rintro _ y2 ⟨rfl, rfl⟩)
          all_goals have HNEWD := HNEW.out.drew
          all_goals go_wp2
          all_goals go_roundw
          all_goals (first | (exact ⟨k + 1, _, by omega, by go_num, by rw [HTK.out, HTX.out, HNN.out], by rw [HTK.out, HGO.out, HNN.out]; rw [decide_eq_false (by omega), Bool.or_false], by rw [HTK.out]; unfold okOf; rw [HTX.out]; exact congrArg Value.bool HOK.out.symm, by rw [HTK.out]; exact HNEWD.out, by rw [HTK.out]; exact HGN.out⟩) | (simp [intOf]; omega))
      · have hi10 : decide ((t : Int) ≤ 10) = false := by simp; omega
        by_cases h11 : t = 11
        · have hi11 : ((t : Int) == 11) = true := by simp; omega
          have hg11 : decide ((11 : Int) < (t : Int)) = false := by simp; omega
          have hg27 : decide ((27 : Int) < (t : Int)) = false := by simp; omega
          cases tx with
          | false =>
            have HSD : Hid (cdec l = (zeroS, 33)) := cd_wrong HE.out HPW.out (P := P) (R := (L.map Prod.fst).drop (k + 1)) (f := ⟨(t : Int), false, nu, by0⟩) (by show (1 : Int) ≤ (t : Int); have := HT.out; omega) (by rw [HL.out]; exact HSP.out) (.inr (.inl ⟨by show (t : Int) = 11; omega, rfl⟩))
            have HNY : Hid (StAt Y (w.heap.size + 1) zeroS (.slice none 0 0)) := HRA.out.non.after HRA.out.be3
            have HRY : Hid (StAt Y w.heap.size zeroS (.slice none 0 0)) := HRA.out.res.after HRA.out.be3
            have HBY1 : Hid (Below w.heap.size w Y) := below_next HRA.out.bel HRA.out.be3
            go_wp2_with (first
              | ((with_reducible refine guard_load 28 ?_); refine wpList_load_st rfl _ rfl HNY.out rfl ?_)
              | ((with_reducible refine guard_store 28 ?_); refine wpList_store_st (s := zeroS) (s2 := zeroS) (a2 := none) (n2 := 0) (c2 := 0) rfl _ _ rfl HRY.out rfl rfl ?_; intro x5 z1 z2 z3 z4))
            rw [HSD.out]
            exact bodyPost_ret (results_st2 rfl _ _ _ _ rfl rfl z1) rfl ⟨_, rfl, OwnL.nil _ _, z2 _ _ HBY1.out (Nat.le_refl _)⟩
          | true =>
            have HTX : Hid (tx9 (P ++ [⟨(t : Int), true, nu, by0⟩]) = tx9 P) := tx9_skip HFS2.out (.inl (by show (t : Int) ≠ 12 + _; rw [HNN.out]; omega))
            have HGO : Hid (gapOf (P ++ [⟨(t : Int), true, nu, by0⟩]) = (gp || decide (11 + ((tx9 P).length : Int) < (t : Int)))) := by show _ = _; rw [gap_skip HTX.out, HGP.out]
            have HGN : Hid (Gd (P ++ [⟨(t : Int), true, nu, by0⟩])) := HGD.out.skip HTX.out (fun h => by exfalso; have h9 : (t : Int) ≤ 10 := h; omega) (fun h => rfl) (fun h => by exfalso; have h9 : (t : Int) = 12 + _ := h; omega)
            have HNEW : Hid (Rq w w3 (Y.setCell ⟨w3.heap.size + 1, 11, none⟩ (.string (str8 by0))) (P ++ [⟨(t : Int), true, nu, by0⟩]) (.slice va nn vc)) := HRA.out.who HFS2.out (by show (t : Int) = 11; omega) rfl HTX.out
            have hc11 := HRA.out.st.cell 11 _ rfl
            have hf11 := HRA.out.st.froz 11
            have HCV : Hid (Own Y x1.heap.size (.slice ad M pcap) by0) := own_app HOW.out HRA.out.be3
            have hcn := conv_own HCV.out
            go_wp2
            go_roundw
            case rel => exact ⟨k + 1, _, by omega, by go_num, by rw [HTK.out, HTX.out, HNN.out], by rw [HTK.out, HGO.out, HNN.out]; rw [decide_eq_false (by omega), Bool.or_false], by rw [HTK.out]; unfold okOf; rw [HTX.out]; exact congrArg Value.bool HOK.out.symm, by rw [HTK.out]; exact HNEW.out, by rw [HTK.out]; exact HGN.out⟩
            case measure => simp [intOf]; omega
        · have hi11 : ((t : Int) == 11) = false := by simp; omega
          have hg11 : (11 : Int) < (t : Int) := by omega
          by_cases hnx : t = 12 + nn
          · have hb12 : ((t : Int) != 12 + (nn : Int)) = false := by simp; omega
            by_cases h27 : 27 < t
            · have hg27 : (27 : Int) < (t : Int) := by omega
              have HTX : Hid (tx9 (P ++ [⟨(t : Int), tx, nu, by0⟩]) = tx9 P) := tx9_skip HFS2.out (by show ((t : Int) ≠ 12 + _) ∨ (27 : Int) < (t : Int); rw [HNN.out]; omega)
              have HGO : Hid (gapOf (P ++ [⟨(t : Int), tx, nu, by0⟩]) = (gp || decide (11 + ((tx9 P).length : Int) < (t : Int)))) := by show _ = _; rw [gap_skip HTX.out, HGP.out]
              have HGN : Hid (Gd (P ++ [⟨(t : Int), tx, nu, by0⟩])) := HGD.out.skip HTX.out (fun h => by exfalso; have h9 : (t : Int) ≤ 10 := h; omega) (fun h => by exfalso; have h9 : (t : Int) = 11 := h; omega) (fun h => by have h9 : (t : Int) = 12 + _ := h; rw [HNN.out] at h9; show (27 : Int) < (t : Int); omega)
              have HNEW : Hid (Rq w w3 Y (P ++ [⟨(t : Int), tx, nu, by0⟩]) (.slice va nn vc)) := HRA.out.pass (by show (11 : Int) < (t : Int); omega) HTX.out
              have HGG : Hid ((11 : Int) + (nn : Int) < (t : Int)) := by have h9 := gap_new HFS2.out (show (11 : Int) < (t : Int) by omega) (by show ((t : Int) ≠ 12 + _) ∨ (27 : Int) < (t : Int); rw [HNN.out]; omega); rw [HNN.out] at h9; exact h9
              go_wp2
              go_roundw
              case rel => exact ⟨k + 1, _, by omega, by go_num, by rw [HTK.out, HTX.out, HNN.out], by rw [HTK.out, HGO.out, HNN.out]; rw [decide_eq_true HGG.out, Bool.or_true], by rw [HTK.out]; unfold okOf; rw [HTX.out]; exact congrArg Value.bool HOK.out.symm, by rw [HTK.out]; exact HNEW.out, by rw [HTK.out]; exact HGN.out⟩
              case measure => simp [intOf]; omega
            · have hg27 : decide ((27 : Int) < (t : Int)) = false := by simp; omega
              cases tx with
              | false =>
                have HSD : Hid (cdec l = (zeroS, 33)) := cd_wrong HE.out HPW.out (P := P) (R := (L.map Prod.fst).drop (k + 1)) (f := ⟨(t : Int), false, nu, by0⟩) (by show (1 : Int) ≤ (t : Int); have := HT.out; omega) (by rw [HL.out]; exact HSP.out) (.inr (.inr ⟨by show (t : Int) = 12 + _; rw [HNN.out]; omega, by show (t : Int) ≤ 27; omega, rfl⟩))
                have HNY : Hid (StAt Y (w.heap.size + 1) zeroS (.slice none 0 0)) := HRA.out.non.after HRA.out.be3
                have HRY : Hid (StAt Y w.heap.size zeroS (.slice none 0 0)) := HRA.out.res.after HRA.out.be3
                have HBY1 : Hid (Below w.heap.size w Y) := below_next HRA.out.bel HRA.out.be3
                go_wp2_with (first
                  | ((with_reducible refine guard_load 28 ?_); refine wpList_load_st rfl _ rfl HNY.out rfl ?_)
                  | ((with_reducible refine guard_store 28 ?_); refine wpList_store_st (s := zeroS) (s2 := zeroS) (a2 := none) (n2 := 0) (c2 := 0) rfl _ _ rfl HRY.out rfl rfl ?_; intro x5 z1 z2 z3 z4))
                rw [HSD.out]
                exact bodyPost_ret (results_st2 rfl _ _ _ _ rfl rfl z1) rfl ⟨_, rfl, OwnL.nil _ _, z2 _ _ HBY1.out (Nat.le_refl _)⟩
              | true =>
                have hbn : by0 ≠ [] := by
                  intro e
                  have h9 := HNZ.out
                  unfold nz at h9
                  rw [e] at h9
                  simp at h9
                have HTX : Hid (tx9 (P ++ [⟨(t : Int), true, nu, by0⟩]) = tx9 P ++ [by0]) := tx9_line HFS2.out (by show (t : Int) = 12 + _; rw [HNN.out]; omega) (by show (t : Int) ≤ 27; omega) rfl hbn
                obtain ⟨hgn, hgo⟩ := HGD.out.line HFS2.out (by show (t : Int) = 12 + _; rw [HNN.out]; omega) HTX.out
                have HGN : Hid (Gd (P ++ [⟨(t : Int), true, nu, by0⟩])) := hgn
                have HGO : Hid (gapOf (P ++ [⟨(t : Int), true, nu, by0⟩]) = gp) := hgo.trans HGP.out
                have HTL : Hid ((tx9 (P ++ [⟨(t : Int), true, nu, by0⟩])).length = nn + 1) := by show _ = _; rw [HTX.out, List.length_append, HNN.out]; rfl
                obtain ⟨p, rb, hpr⟩ : ∃ p rb, rdLn by0 = (p, rb) := ⟨_, _, rfl⟩
                have HPR : Hid (rdLn by0 = (p, rb)) := hpr
                have HOO : Hid (okOf (P ++ [⟨(t : Int), true, nu, by0⟩]) = (okk && rb)) := by
                  have h9 := HOK.out
                  unfold okOf at h9
                  show _ = _
                  unfold okOf
                  rw [HTX.out, List.all_append, h9]
                  simp [hpr]
                have HBYT : Hid (Bytes Y ad by0) := by
                  obtain ⟨ta, tc, htv, _, _, hty, _⟩ := (own_app HOW.out HRA.out.be3).shape
                  injection htv with h1
                  rw [h1]
                  exact hty
                have hm200 : M ≤ 1000000 := by have := HB0L.out; have := HM.out; omega
                have hsz4 : (lnA p).size = 4 := rfl
                have hnnI : (nn : Int) ≤ 16 := by omega
                clear hbn hgn hgo hpr
                cases okk with
                | true =>
                  go_wp2_with (first
                    | (go_at_call 14; refine (rline_any by0 ad M pcap _ HM.out HBYT.out hpc hm200).mono ?_; rw [HPR.out]; rintro _ y1 ⟨rfl, hb1⟩; have HR1 : Hid (Rq w w3 y1 P (.slice va nn vc)) := HRA.out.keep hb1; clear hb1)
                    | ((with_reducible refine guard_store 37 ?_); refine wpList_store_ln (p := zeroL) (p2 := p) rfl _ _ rfl (LnAt.new y1 zeroL) rfl rfl ?_; intro y2 z1 z2 z3 z4; have HR2 : Hid (Rq w w3 y2 P (.slice va nn vc)) := HR1.out.keep (z2 _ _ ((Below.refl y1.heap.size y1).alloc (Nat.le_refl _) _) (Nat.le_refl _)); have HZ2 : Hid (LnAt y2 y1.heap.size p) := z1; have d5 := HR2.out.st.cell 5 _ rfl; clear z1 z2 z3 z4)
                    | ((with_reducible refine guard_load 37 ?_); refine wpList_load_ln rfl _ rfl HZ2.out rfl ?_)
                    | (at_builtin; go_loud (refine wpList_append_own _ rfl _ _ 26 rfl (w3.heap.size + 2) 37 i0 (.agg #[.int .i64 0, .int .i64 0, .int .i64 0, .int .i64 0]) 4 32 Tryz.underlying26 hi hz0 hz1 hz2 rfl (by decide) (.slice va nn vc) (lnsOf P).length _ rfl (OwnL.keep HR2.out.own ((Below.refl _ _).alloc (Nat.le_refl _) _)) ⟨y2.heap.size, 0, none⟩ 1 1 [.int .i64 p.item, .int .i64 p.price, .int .i64 p.qty, .int .i64 p.shipped] rfl rfl (lncell_new y2 p _) (by intro u hu; simp only [List.mem_cons, List.not_mem_nil, or_false] at hu; rcases hu with rfl | rfl | rfl | rfl <;> rfl) (by have := HLL.out; unfold maxLen; omega) (by have := HLL.out; omega) (by have := HR2.out.st.lt; simp; omega) ?_; intro v6 w6 ho6 hg6 _; obtain ⟨a6, c6, h6, _⟩ := (show OwnL w6 (w3.heap.size + 2) v6 (lnsOf P ++ [p]) from OwnL.snoc rfl ho6).shape; obtain ⟨q6, hq6⟩ : ∃ q, (lnsOf P ++ [p]).length = q := ⟨_, rfl⟩; rw [hq6] at h6; subst h6; clear hq6; obtain ⟨k1, k2⟩ := Rq.line (HR2.out.keep ((Below.refl _ _).alloc (Nat.le_refl _) _)) (f := ⟨(t : Int), true, nu, by0⟩) (by show (11 : Int) < (t : Int); omega) HTX.out (show OwnL w6 (w3.heap.size + 2) (.slice a6 q6 c6) (lnsOf P ++ [(rdLn by0).1]) from (by rw [HPR.out]; exact OwnL.snoc rfl ho6)) hg6; have HNEW : Hid (Rq w w3 (w6.setCell ⟨w3.heap.size + 1, 5, none⟩ (.slice a6 q6 c6)) (P ++ [⟨(t : Int), true, nu, by0⟩]) (.slice a6 q6 c6)) := k2; have g5 := k1.cell 5 _ rfl; have g5f := k1.froz 5; clear k1 k2 ho6 hg6)))
                  go_roundw
                  case rel => exact ⟨k + 1, .slice a6 q6 c6, by omega, by go_num, by rw [HTK.out, HTL.out]; go_num, by rw [HTK.out, HGO.out], by rw [HTK.out, HOO.out]; rfl, by rw [HTK.out]; exact HNEW.out, by rw [HTK.out]; exact HGN.out⟩
                  case measure => simp [intOf]; omega
                | false =>
                  go_wp2_with (first
                    | (go_at_call 14; refine (rline_any by0 ad M pcap _ HM.out HBYT.out hpc hm200).mono ?_; rw [HPR.out]; rintro _ y1 ⟨rfl, hb1⟩; have HR1 : Hid (Rq w w3 y1 P (.slice va nn vc)) := HRA.out.keep hb1; clear hb1)
                    | ((with_reducible refine guard_store 37 ?_); refine wpList_store_ln (p := zeroL) (p2 := p) rfl _ _ rfl (LnAt.new y1 zeroL) rfl rfl ?_; intro y2 z1 z2 z3 z4; have HR2 : Hid (Rq w w3 y2 P (.slice va nn vc)) := HR1.out.keep (z2 _ _ ((Below.refl y1.heap.size y1).alloc (Nat.le_refl _) _) (Nat.le_refl _)); have HZ2 : Hid (LnAt y2 y1.heap.size p) := z1; have d5 := HR2.out.st.cell 5 _ rfl; clear z1 z2 z3 z4)
                    | ((with_reducible refine guard_load 37 ?_); refine wpList_load_ln rfl _ rfl HZ2.out rfl ?_)
                    | (at_builtin; go_loud (refine wpList_append_own _ rfl _ _ 26 rfl (w3.heap.size + 2) 37 i0 (.agg #[.int .i64 0, .int .i64 0, .int .i64 0, .int .i64 0]) 4 32 Tryz.underlying26 hi hz0 hz1 hz2 rfl (by decide) (.slice va nn vc) (lnsOf P).length _ rfl (OwnL.keep HR2.out.own ((Below.refl _ _).alloc (Nat.le_refl _) _)) ⟨y2.heap.size, 0, none⟩ 1 1 [.int .i64 p.item, .int .i64 p.price, .int .i64 p.qty, .int .i64 p.shipped] rfl rfl (lncell_new y2 p _) (by intro u hu; simp only [List.mem_cons, List.not_mem_nil, or_false] at hu; rcases hu with rfl | rfl | rfl | rfl <;> rfl) (by have := HLL.out; unfold maxLen; omega) (by have := HLL.out; omega) (by have := HR2.out.st.lt; simp; omega) ?_; intro v6 w6 ho6 hg6 _; obtain ⟨a6, c6, h6, _⟩ := (show OwnL w6 (w3.heap.size + 2) v6 (lnsOf P ++ [p]) from OwnL.snoc rfl ho6).shape; obtain ⟨q6, hq6⟩ : ∃ q, (lnsOf P ++ [p]).length = q := ⟨_, rfl⟩; rw [hq6] at h6; subst h6; clear hq6; obtain ⟨k1, k2⟩ := Rq.line (HR2.out.keep ((Below.refl _ _).alloc (Nat.le_refl _) _)) (f := ⟨(t : Int), true, nu, by0⟩) (by show (11 : Int) < (t : Int); omega) HTX.out (show OwnL w6 (w3.heap.size + 2) (.slice a6 q6 c6) (lnsOf P ++ [(rdLn by0).1]) from (by rw [HPR.out]; exact OwnL.snoc rfl ho6)) hg6; have HNEW : Hid (Rq w w3 (w6.setCell ⟨w3.heap.size + 1, 5, none⟩ (.slice a6 q6 c6)) (P ++ [⟨(t : Int), true, nu, by0⟩]) (.slice a6 q6 c6)) := k2; have g5 := k1.cell 5 _ rfl; have g5f := k1.froz 5; clear k1 k2 ho6 hg6)))
                  go_roundw
                  case rel => exact ⟨k + 1, .slice a6 q6 c6, by omega, by go_num, by rw [HTK.out, HTL.out]; go_num, by rw [HTK.out, HGO.out], by rw [HTK.out, HOO.out]; rfl, by rw [HTK.out]; exact HNEW.out, by rw [HTK.out]; exact HGN.out⟩
                  case measure => simp [intOf]; omega
          · have hb12 : ((t : Int) != 12 + (nn : Int)) = true := by simp; omega
            have HTX : Hid (tx9 (P ++ [⟨(t : Int), tx, nu, by0⟩]) = tx9 P) := tx9_skip HFS2.out (by show ((t : Int) ≠ 12 + _) ∨ (27 : Int) < (t : Int); rw [HNN.out]; omega)
            have HGO : Hid (gapOf (P ++ [⟨(t : Int), tx, nu, by0⟩]) = (gp || decide (11 + ((tx9 P).length : Int) < (t : Int)))) := by show _ = _; rw [gap_skip HTX.out, HGP.out]
            have HGN : Hid (Gd (P ++ [⟨(t : Int), tx, nu, by0⟩])) := HGD.out.skip HTX.out (fun h => by exfalso; have h9 : (t : Int) ≤ 10 := h; omega) (fun h => by exfalso; have h9 : (t : Int) = 11 := h; omega) (fun h => by have h9 : (t : Int) = 12 + _ := h; rw [HNN.out] at h9; show (27 : Int) < (t : Int); omega)
            have HNEW : Hid (Rq w w3 Y (P ++ [⟨(t : Int), tx, nu, by0⟩]) (.slice va nn vc)) := HRA.out.pass (by show (11 : Int) < (t : Int); omega) HTX.out
            have HGG : Hid ((11 : Int) + (nn : Int) < (t : Int)) := by have h9 := gap_new HFS2.out (show (11 : Int) < (t : Int) by omega) (by show ((t : Int) ≠ 12 + _) ∨ (27 : Int) < (t : Int); rw [HNN.out]; omega); rw [HNN.out] at h9; exact h9
            go_wp2
            go_roundw
            case rel => exact ⟨k + 1, _, by omega, by go_num, by rw [HTK.out, HTX.out, HNN.out], by rw [HTK.out, HGO.out, HNN.out]; rw [decide_eq_true HGG.out, Bool.or_true], by rw [HTK.out]; unfold okOf; rw [HTX.out]; exact congrArg Value.bool HOK.out.symm, by rw [HTK.out]; exact HNEW.out, by rw [HTK.out]; exact HGN.out⟩
            case measure => simp [intOf]; omega
    · obtain rfl : k = N := by omega
      have hPP : (L.map Prod.fst).take k = L.map Prod.fst := List.take_of_length_le (by rw [List.length_map, HNL.out]; exact Nat.le_refl _)
      obtain rfl : P = L.map Prod.fst := hP.symm.trans hPP
      clear hP
      rw [hPP] at HI
      rw [hPP]
      have HNY : Hid (StAt wr (w.heap.size + 1) zeroS (.slice none 0 0)) := HI.out.1.non.after HI.out.1.be3
      have HRY : Hid (StAt wr w.heap.size zeroS (.slice none 0 0)) := HI.out.1.res.after HI.out.1.be3
      have HBY1 : Hid (Below w.heap.size w wr) := below_next HI.out.1.bel HI.out.1.be3
      obtain ⟨P, hP⟩ : ∃ P, L.map Prod.fst = P := ⟨_, rfl⟩
      have HPL : Hid ((recs l).1 = P) := HL.out.trans hP
      rw [hP] at HI
      rw [hP]
      clear hPP
      obtain ⟨nn, hnn⟩ : ∃ nn, (tx9 P).length = nn := ⟨_, rfl⟩
      have HNN : Hid ((tx9 P).length = nn) := hnn
      have hn16 : nn ≤ 16 := by have := tx9_len P; omega
      rw [hnn]
      clear hnn
      by_cases hal : gapOf P = true
      · have HSD : Hid (cdec l = (zeroS, 20)) := cd_gap HE.out (by rw [HPL.out]; exact HI.out.2) (by rw [HPL.out]; exact hal)
        rw [hal]
        clear hal
        go_wp2_with (first
          | ((with_reducible refine guard_load 28 ?_); refine wpList_load_st rfl _ rfl HNY.out rfl ?_)
          | ((with_reducible refine guard_store 28 ?_); refine wpList_store_st (s := zeroS) (s2 := zeroS) (a2 := none) (n2 := 0) (c2 := 0) rfl _ _ rfl HRY.out rfl rfl ?_; intro x5 z1 z2 z3 z4))
        rw [HSD.out]
        exact bodyPost_ret (results_st2 rfl _ _ _ _ rfl rfl z1) rfl ⟨_, rfl, OwnL.nil _ _, z2 _ _ HBY1.out (Nat.le_refl _)⟩
      · have half : gapOf P = false := by simpa using hal
        have HSD : Hid (cdec l = if okOf P = true ∧ vldB (stN P) = true then (stN P, 0) else (zeroS, 40)) := by
          have h9 := cd_fine HE.out (fun f hf => (HFR.out f hf).2.1) (by rw [HPL.out]; exact HI.out.2) (by rw [HPL.out]; exact half)
          rw [HPL.out] at h9
          exact h9
        obtain ⟨n1, hn1⟩ : ∃ x, capN (numF P ((1 : Nat) : Int)) = x := ⟨_, rfl⟩
        have a1 : wr.cell? ⟨w3.heap.size, 1, none⟩ = some (.int .i64 n1) := by
          have h9 := HI.out.1.num.row 1 (by rw [ns_len]; omega)
          rw [ns_get _ _ (by omega), hn1] at h9
          exact h9
        obtain ⟨n2, hn2⟩ : ∃ x, capN (numF P ((2 : Nat) : Int)) = x := ⟨_, rfl⟩
        have a2 : wr.cell? ⟨w3.heap.size, 2, none⟩ = some (.int .i64 n2) := by
          have h9 := HI.out.1.num.row 2 (by rw [ns_len]; omega)
          rw [ns_get _ _ (by omega), hn2] at h9
          exact h9
        obtain ⟨n3, hn3⟩ : ∃ x, capN (numF P ((3 : Nat) : Int)) = x := ⟨_, rfl⟩
        have a3 : wr.cell? ⟨w3.heap.size, 3, none⟩ = some (.int .i64 n3) := by
          have h9 := HI.out.1.num.row 3 (by rw [ns_len]; omega)
          rw [ns_get _ _ (by omega), hn3] at h9
          exact h9
        obtain ⟨n4, hn4⟩ : ∃ x, capN (numF P ((4 : Nat) : Int)) = x := ⟨_, rfl⟩
        have a4 : wr.cell? ⟨w3.heap.size, 4, none⟩ = some (.int .i64 n4) := by
          have h9 := HI.out.1.num.row 4 (by rw [ns_len]; omega)
          rw [ns_get _ _ (by omega), hn4] at h9
          exact h9
        obtain ⟨n5, hn5⟩ : ∃ x, capN (numF P ((5 : Nat) : Int)) = x := ⟨_, rfl⟩
        have a5 : wr.cell? ⟨w3.heap.size, 5, none⟩ = some (.int .i64 n5) := by
          have h9 := HI.out.1.num.row 5 (by rw [ns_len]; omega)
          rw [ns_get _ _ (by omega), hn5] at h9
          exact h9
        obtain ⟨n6, hn6⟩ : ∃ x, capN (numF P ((6 : Nat) : Int)) = x := ⟨_, rfl⟩
        have a6 : wr.cell? ⟨w3.heap.size, 6, none⟩ = some (.int .i64 n6) := by
          have h9 := HI.out.1.num.row 6 (by rw [ns_len]; omega)
          rw [ns_get _ _ (by omega), hn6] at h9
          exact h9
        obtain ⟨n7, hn7⟩ : ∃ x, capN (numF P ((7 : Nat) : Int)) = x := ⟨_, rfl⟩
        have a7 : wr.cell? ⟨w3.heap.size, 7, none⟩ = some (.int .i64 n7) := by
          have h9 := HI.out.1.num.row 7 (by rw [ns_len]; omega)
          rw [ns_get _ _ (by omega), hn7] at h9
          exact h9
        obtain ⟨n8, hn8⟩ : ∃ x, capN (numF P ((8 : Nat) : Int)) = x := ⟨_, rfl⟩
        have a8 : wr.cell? ⟨w3.heap.size, 8, none⟩ = some (.int .i64 n8) := by
          have h9 := HI.out.1.num.row 8 (by rw [ns_len]; omega)
          rw [ns_get _ _ (by omega), hn8] at h9
          exact h9
        obtain ⟨n9, hn9⟩ : ∃ x, capN (numF P ((9 : Nat) : Int)) = x := ⟨_, rfl⟩
        have a9 : wr.cell? ⟨w3.heap.size, 9, none⟩ = some (.int .i64 n9) := by
          have h9 := HI.out.1.num.row 9 (by rw [ns_len]; omega)
          rw [ns_get _ _ (by omega), hn9] at h9
          exact h9
        obtain ⟨n10, hn10⟩ : ∃ x, capN (numF P ((10 : Nat) : Int)) = x := ⟨_, rfl⟩
        have a10 : wr.cell? ⟨w3.heap.size, 10, none⟩ = some (.int .i64 n10) := by
          have h9 := HI.out.1.num.row 10 (by rw [ns_len]; omega)
          rw [ns_get _ _ (by omega), hn10] at h9
          exact h9
        have hlen : (lnsOf P).length = nn := (lnsOf_len P).trans HNN.out
        obtain ⟨va, vc, hvs, _, hcm, _, _⟩ := HI.out.1.own.shape
        rw [hlen] at hvs
        subst hvs
        obtain ⟨S11, hS⟩ : ∃ x, str8 (txtF P 11) = x := ⟨_, rfl⟩
        have he0 := HI.out.1.st
        rw [hS] at he0
        have hEV : stN P = ⟨n1, n2, n3, n4, n5, lnsOf P, n6, n7, n8, n9, n10, S11⟩ := by
          rw [← hn1, ← hn2, ← hn3, ← hn4, ← hn5, ← hn6, ← hn7, ← hn8, ← hn9, ← hn10, ← hS]
          rfl
        rw [hEV] at HSD
        rw [half]
        have HLL : Hid ((lnsOf P).length = nn) := hlen
        clear half hEV hn1 hn2 hn3 hn4 hn5 hn6 hn7 hn8 hn9 hn10 hS hal hlen hcm
        have b0 := he0.cell 0 _ rfl
        have q0 := he0.froz 0
        have b1 := he0.cell 1 _ rfl
        have q1 := he0.froz 1
        have b2 := he0.cell 2 _ rfl
        have q2 := he0.froz 2
        have b3 := he0.cell 3 _ rfl
        have q3 := he0.froz 3
        have b4 := he0.cell 4 _ rfl
        have q4 := he0.froz 4
        have b6 := he0.cell 6 _ rfl
        have q6 := he0.froz 6
        have b7 := he0.cell 7 _ rfl
        have q7 := he0.froz 7
        have b8 := he0.cell 8 _ rfl
        have q8 := he0.froz 8
        have b9 := he0.cell 9 _ rfl
        have q9 := he0.froz 9
        have b10 := he0.cell 10 _ rfl
        have q10 := he0.froz 10
        have hne1 : ¬ w3.heap.size = w3.heap.size + 1 := by omega
        have hne2 : ¬ w3.heap.size + 1 = w3.heap.size := by omega
        obtain ⟨Z, hZ⟩ : ∃ Z, ((((((((((wr.setCell ⟨w3.heap.size + 1, 0, none⟩ (.int .i64 n1)).setCell ⟨w3.heap.size + 1, 1, none⟩ (.int .i64 n2)).setCell ⟨w3.heap.size + 1, 2, none⟩ (.int .i64 n3)).setCell ⟨w3.heap.size + 1, 3, none⟩ (.int .i64 n4)).setCell ⟨w3.heap.size + 1, 4, none⟩ (.int .i64 n5)).setCell ⟨w3.heap.size + 1, 6, none⟩ (.int .i64 n6)).setCell ⟨w3.heap.size + 1, 7, none⟩ (.int .i64 n7)).setCell ⟨w3.heap.size + 1, 8, none⟩ (.int .i64 n8)).setCell ⟨w3.heap.size + 1, 9, none⟩ (.int .i64 n9)).setCell ⟨w3.heap.size + 1, 10, none⟩ (.int .i64 n10)) = Z := ⟨_, rfl⟩
        have HZ : Hid (((((((((((wr.setCell ⟨w3.heap.size + 1, 0, none⟩ (.int .i64 n1)).setCell ⟨w3.heap.size + 1, 1, none⟩ (.int .i64 n2)).setCell ⟨w3.heap.size + 1, 2, none⟩ (.int .i64 n3)).setCell ⟨w3.heap.size + 1, 3, none⟩ (.int .i64 n4)).setCell ⟨w3.heap.size + 1, 4, none⟩ (.int .i64 n5)).setCell ⟨w3.heap.size + 1, 6, none⟩ (.int .i64 n6)).setCell ⟨w3.heap.size + 1, 7, none⟩ (.int .i64 n7)).setCell ⟨w3.heap.size + 1, 8, none⟩ (.int .i64 n8)).setCell ⟨w3.heap.size + 1, 9, none⟩ (.int .i64 n9)).setCell ⟨w3.heap.size + 1, 10, none⟩ (.int .i64 n10)) = Z) := hZ
        have hsz : w.heap.size + 2 ≤ w3.heap.size := by have := HI.out.1.non.lt; omega
        obtain ⟨f1, f2, f3⟩ := fill10 he0 n1 n2 n3 n4 n5 n6 n7 n8 n9 n10 _ hZ
        have HEZ : Hid (StAt Z (w3.heap.size + 1) ⟨n1, n2, n3, n4, n5, lnsOf P, n6, n7, n8, n9, n10, S11⟩ (.slice va nn vc)) := f1
        have HNZ : Hid (StAt Z (w.heap.size + 1) zeroS (.slice none 0 0)) := (f2 _ (by omega)).trans HNY.out
        have HRZ : Hid (StAt Z w.heap.size zeroS (.slice none 0 0)) := (f2 _ (by omega)).trans HRY.out
        have HBZ : Hid (Below w.heap.size w Z) := f3 _ _ HBY1.out (by omega)
        have HOZ : Hid (OwnL Z (w3.heap.size + 2) (.slice va nn vc) (lnsOf P)) := OwnL.other HI.out.1.own (k := w3.heap.size + 1) (by omega) f2
        have HLZ : Hid (Lns Z va (lnsOf P)) := ownl_lns HOZ.out
        clear he0 f1 f2 f3 hZ
        obtain ⟨EE, hEE⟩ : ∃ E : St, E = ⟨n1, n2, n3, n4, n5, lnsOf P, n6, n7, n8, n9, n10, S11⟩ := ⟨_, rfl⟩
        rw [← hEE] at HEZ HSD
        have HEL : Hid (EE.lines.length = nn) := by show _ = _; rw [hEE]; exact HLL.out
        have HEQ : Hid (EE.lines = lnsOf P) := by show _ = _; rw [hEE]
        rw [← HEQ.out] at HLZ
        obtain ⟨c, hC⟩ : ∃ c, vldB EE = c := ⟨_, rfl⟩
        have HC : Hid (_) := hC
        rw [hC] at HSD
        obtain ⟨okk, hok⟩ : ∃ okk, okOf P = okk := ⟨_, rfl⟩
        rw [hok]
        rw [hok] at HSD
        have hnm : nn ≤ 1000 := by omega
        clear hEE hC hok
        cases okk with
        | false =>
          have HSD2 : Hid (cdec l = (zeroS, 40)) := by show _ = _; rw [HSD.out]; rfl
          have T2 : Hid True := trivial
          go_wp2_with (first
            | ((with_reducible refine guard_load 28 ?_); clear T2; rw [HZ.out]; refine wpList_load_st rfl _ rfl HNZ.out rfl ?_)
            | ((with_reducible refine guard_store 28 ?_); refine wpList_store_st (s := zeroS) (s2 := zeroS) (a2 := none) (n2 := 0) (c2 := 0) rfl _ _ rfl HRZ.out rfl rfl ?_; intro x5 z1 z2 z3 z4))
          rw [HSD2.out]
          exact bodyPost_ret (results_st2 rfl _ _ _ _ rfl rfl z1) rfl ⟨_, rfl, OwnL.nil _ _, z2 _ _ HBZ.out (Nat.le_refl _)⟩
        | true =>
          cases c with
          | true =>
            have HSD2 : Hid (cdec l = (EE, 0)) := by show _ = _; rw [HSD.out]; rfl
            have T2 : Hid True := trivial
            go_wp2_with (first
              | ((with_reducible refine guard_loadg 28 ?_); clear T2; rw [HZ.out]; refine wpList_load_stg rfl _ rfl HEZ.out rfl ?_)
              | (go_at_call 15; refine (rvalid_any EE va nn vc _ HEL.out HLZ.out (by unfold maxLen; omega)).mono ?_; rw [HC.out]; rintro _ y9 ⟨rfl, hb9⟩; have h1 := HEZ.out.after hb9; have h2 := HNZ.out.after hb9; have h3 := HRZ.out.after hb9; have h4 := below_next HBZ.out hb9; have h5 := OwnL.keep HOZ.out hb9; clear HEZ HNZ HRZ HBZ HOZ hb9; have HEZ : Hid (StAt y9 (w3.heap.size + 1) EE (.slice va nn vc)) := h1; have HNZ : Hid (StAt y9 (w.heap.size + 1) zeroS (.slice none 0 0)) := h2; have HRZ : Hid (StAt y9 w.heap.size zeroS (.slice none 0 0)) := h3; have HBZ : Hid (Below w.heap.size w y9) := h4; have HOZ : Hid (OwnL y9 (w3.heap.size + 2) (.slice va nn vc) (lnsOf P)) := h5; clear h1 h2 h3 h4 h5)
              | ((with_reducible refine guard_load 28 ?_); refine wpList_load_st rfl _ rfl HEZ.out rfl ?_)
              | ((with_reducible refine guard_store 28 ?_); refine wpList_store_st (s := zeroS) (s2 := EE) (a2 := va) (n2 := nn) (c2 := vc) rfl _ _ rfl HRZ.out rfl rfl ?_; intro x5 z1 z2 z3 z4))
            rw [HSD2.out]
            exact bodyPost_ret (results_st2 rfl _ _ _ _ rfl rfl z1) rfl ⟨_, rfl, by rw [HEQ.out]; exact (OwnL.other HOZ.out (k := w.heap.size) (by omega) z3).mono (by omega), z2 _ _ HBZ.out (Nat.le_refl _)⟩
          | false =>
            have HSD2 : Hid (cdec l = (zeroS, 40)) := by show _ = _; rw [HSD.out]; rfl
            have T2 : Hid True := trivial
            go_wp2_with (first
              | ((with_reducible refine guard_loadg 28 ?_); clear T2; rw [HZ.out]; refine wpList_load_stg rfl _ rfl HEZ.out rfl ?_)
              | (go_at_call 15; refine (rvalid_any EE va nn vc _ HEL.out HLZ.out (by unfold maxLen; omega)).mono ?_; rw [HC.out]; rintro _ y9 ⟨rfl, hb9⟩; have h1 := HEZ.out.after hb9; have h2 := HNZ.out.after hb9; have h3 := HRZ.out.after hb9; have h4 := below_next HBZ.out hb9; have h5 := OwnL.keep HOZ.out hb9; clear HEZ HNZ HRZ HBZ HOZ hb9; have HEZ : Hid (StAt y9 (w3.heap.size + 1) EE (.slice va nn vc)) := h1; have HNZ : Hid (StAt y9 (w.heap.size + 1) zeroS (.slice none 0 0)) := h2; have HRZ : Hid (StAt y9 w.heap.size zeroS (.slice none 0 0)) := h3; have HBZ : Hid (Below w.heap.size w y9) := h4; have HOZ : Hid (OwnL y9 (w3.heap.size + 2) (.slice va nn vc) (lnsOf P)) := h5; clear h1 h2 h3 h4 h5)
              | ((with_reducible refine guard_load 28 ?_); refine wpList_load_st rfl _ rfl HNZ.out rfl ?_)
              | ((with_reducible refine guard_store 28 ?_); refine wpList_store_st (s := zeroS) (s2 := zeroS) (a2 := none) (n2 := 0) (c2 := 0) rfl _ _ rfl HRZ.out rfl rfl ?_; intro x5 z1 z2 z3 z4))
            rw [HSD2.out]
            exact bodyPost_ret (results_st2 rfl _ _ _ _ rfl rfl z1) rfl ⟨_, rfl, OwnL.nil _ _, z2 _ _ HBZ.out (Nat.le_refl _)⟩
set_option maxRecDepth 20000 in
set_option maxHeartbeats 2000000 in
theorem rdec09_bad (l : List Nat) (a : Option Addr) (n cap : Nat) (w : World) (hn : l.length = n) (hb : Bytes w a l) (hcap : n ≤ cap) (hm : n ≤ maxLen) (he : (recs l).2.2 ≠ 0) :
    Calls Tryz.prog 6 #[.slice a n cap] w fun r w' => CdecPost w (cdec l) r w' := by
  obtain ⟨W, hW, h0, h1, hbW⟩ := two_z w
  have HW : Hid (_ = W) := hW
  have H0 : Hid (StAt W w.heap.size zeroS (.slice none 0 0)) := h0
  have H1 : Hid (StAt W (w.heap.size + 1) zeroS (.slice none 0 0)) := h1
  have HB : Hid (Below w.heap.size w W) := hbW
  have HBY : Hid (Bytes w a l) := hb
  have HN : Hid (_) := hn
  have HSD : Hid (cdec l = (zeroS, ((recs l).2.2 : Int))) := if_pos he
  obtain ⟨e, hE⟩ : ∃ e, (recs l).2.2 = e := ⟨_, rfl⟩
  have HEE : Hid (_) := hE
  obtain ⟨i, hI⟩ : ∃ i, (recs l).2.1 = i := ⟨_, rfl⟩
  have HII : Hid (_) := hI
  rw [hE] at he HSD
  have heb : ((e : Int) != 0) = true := by simp; omega
  have T1 : Hid True := trivial
  clear hW h0 h1 hbW hb hn he hE hI
  go_enter Tryz.func6, Tryz.ntmps6
  go_wp2_with (first
    | ((with_reducible refine guard_store 28 ?_); clear T1; rw [show (w.alloc (.cells #[.int .i64 0, .int .i64 0, .int .i64 0, .int .i64 0, .int .i64 0, .slice none 0 0, .int .i64 0, .int .i64 0, .int .i64 0, .int .i64 0, .int .i64 0, .string ⟨#[]⟩] 28)).alloc (.cells #[.int .i64 0, .int .i64 0, .int .i64 0, .int .i64 0, .int .i64 0, .slice none 0 0, .int .i64 0, .int .i64 0, .int .i64 0, .int .i64 0, .int .i64 0, .string ⟨#[]⟩] 28) = W from HW.out]; refine wpList_store_st (s := zeroS) (s2 := zeroS) (a2 := none) (n2 := 0) (c2 := 0) rfl _ _ rfl H1.out rfl rfl ?_; intro x1 z1 z2 z3 z4; have HNN : Hid (StAt x1 (w.heap.size + 1) zeroS (.slice none 0 0)) := z1; have HRR : Hid (StAt x1 w.heap.size zeroS (.slice none 0 0)) := (z3 _ (by omega)).trans H0.out; have HBX : Hid (Below w.heap.size w x1) := z2 _ _ HB.out (by omega); clear z1 z2 z3 z4)
    | (go_at_call 12; refine (rtdec l a n cap _ HN.out (HBY.out.keep HBX.out) hcap hm).mono ?_; rintro r w3 ⟨vv, L, hr, hL, hR, hb3⟩; rw [HEE.out, HII.out] at hr; subst hr; clear hL hR; have HB3 : Hid (Below w.heap.size w w3) := below_next HBX.out hb3; have HN3 : Hid (StAt w3 (w.heap.size + 1) zeroS (.slice none 0 0)) := HNN.out.after hb3; have HR3 : Hid (StAt w3 w.heap.size zeroS (.slice none 0 0)) := HRR.out.after hb3; clear hb3)
    | ((with_reducible refine guard_load 28 ?_); refine wpList_load_st rfl _ rfl HN3.out rfl ?_)
    | ((with_reducible refine guard_store 28 ?_); refine wpList_store_st (s := zeroS) (s2 := zeroS) (a2 := none) (n2 := 0) (c2 := 0) rfl _ _ rfl HR3.out rfl rfl ?_; intro x5 z1 z2 z3 z4))
  rw [HSD.out]
  exact bodyPost_ret (results_st2 rfl _ _ _ _ rfl rfl z1) rfl ⟨_, rfl, OwnL.nil _ _, z2 _ _ HB3.out (Nat.le_refl _)⟩
theorem rdec09_any (l : List Nat) (a : Option Addr) (n cap : Nat) (w : World) (hn : l.length = n) (hb : Bytes w a l) (hcap : n ≤ cap) (hm : n ≤ maxLen) :
    Calls Tryz.prog 6 #[.slice a n cap] w fun r w' => CdecPost w (cdec l) r w' := by
  by_cases he : (recs l).2.2 = 0
  · exact rdec09_yes l a n cap w hn hb hcap hm he
  · exact rdec09_bad l a n cap w hn hb hcap hm he
end Go.Proofs.YtfcgcpfckbmgnaaGreat
