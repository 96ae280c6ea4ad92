/- Own texts, joined: RdecAl, Rm4. -/
import Derived.Test.YtoneaannbmkeiaaDoorK13
import Derived.Test.YtoneaannbmkeiaaDoorK24
import Derived.Test.YtoneaannbmkeiaaDoorK19
import Derived.Test.YtoneaannbmkeiaaDoorK18
namespace Go.Proofs.YtoneaannbmkeiaaDoor
open Go.ChangeShapes Go.WideShapes Go.ChangeAt Go.RowKit
set_option linter.unusedVariables false
def lenOf : Value → Nat
  | .slice _ n _ => n
  | _ => 0
theorem litq (w : World) : Own64 (w.alloc (.cells #[] 47)) w.heap.size (.slice (some ⟨w.heap.size, 0, none⟩) 0 0) [] :=
  ⟨by simp, World.ownsRow_lit w #[] 0 (Nat.le_refl _) (by simp) rfl⟩
theorem Own64.shaped {w : World} {base : Nat} {v : Value} {l : List Nat} (h : Own64 w base v l) (n : Nat) (hn : l.length = n) : ∃ a c, v = .slice a n c := by
  obtain ⟨a, c, h1, _⟩ := h.slice
  exact ⟨a, c, by rw [h1, hn]⟩
set_option maxRecDepth 20000 in
set_option maxHeartbeats 2000000 in
theorem rdecAll_any (l : List Nat) (most : Int) (n : Nat) (a : Option Addr) (cap : Nat) (w : World) (hn : l.length = n) (hb : Bytes w a l) (hcap : n ≤ cap) (hl : n ≤ 140737488351232) (hmk : most ≤ 16777216) (hm0 : -9223372036854775808 ≤ most) (hm1 : most ≤ 9223372036854775807) :
    Calls Tryd.prog 26 #[.slice a n cap, .int .i64 most] w fun x w' => ∃ v, x = .returned (.tuple #[v, .int .i64 (decAll l most).2.1, .int .i64 (decAll l most).2.2]) ∧ Own64 w' w.heap.size v (decAll l most).1 ∧ Below w.heap.size w w' := by
  obtain ⟨i0, hi, hz0, hz1, hz2⟩ := info_parts Tryd.info64
  obtain ⟨u, p, e, hd⟩ : ∃ u p e, dec 0 0 l = (u, p, e) := ⟨_, _, _, rfl⟩
  have HD : Hid (_ = _) := hd
  have HB : Hid (Bytes w a l) := hb
  have HLN : Hid (l.length = n) := hn
  have HLM : Hid (l.length ≤ maxLen) := by show _ ≤ _; rw [hn]; unfold maxLen; omega
  by_cases he : e = 0
  · subst he
    have hform := vdec_form l hb.mem (by rw [hd])
    rw [hd] at hform
    simp only at hform
    obtain ⟨f1, f2, f3, f4, f5⟩ := hform
    rw [hn] at f2
    have hne : l ≠ [] := by intro h; subst h; simp at hn; omega
    obtain ⟨b, off, rfl, hlt, hcl⟩ := hb.nonempty hne
    obtain ⟨M, hM⟩ : ∃ M : Nat, M = most.toNat := ⟨_, rfl⟩
    have huI : (u : Int) ≤ 18446744073709551615 := by omega
    by_cases hbig : M < u
    · have HR : Hid (decAll l most = ([], 0, 24)) := by
        show _ = _
        unfold decAll
        rw [hd, if_neg (by simp), if_pos (by rw [← hM]; exact hbig)]
      have hor : (most < 0 ∧ M = 0) ∨ (0 ≤ most ∧ (M : Int) = most) := by omega
      clear hb hd hcl hM hn f5 hne
      rcases hor with ⟨h1, rfl⟩ | ⟨h1, h2⟩
      · have h3 : (0 : Int) < (u : Int) := by omega
        go_enter Tryd.func26, Tryd.ntmps26
        go_wp2_with (go_at_call 44; refine (rdec_at l _ u p 0 _ _ _ HLN.out HD.out HB.out HLM.out).mono ?_; rintro x w1 ⟨rfl, rfl⟩)
        go_ret3
        rw [HR.out]
        exact ⟨_, rfl, own64_nil _ _, Below.refl _ _⟩
      · have h3 : most < (u : Int) := by omega
        clear h2
        go_enter Tryd.func26, Tryd.ntmps26
        go_wp2_with (go_at_call 44; refine (rdec_at l _ u p 0 _ _ _ HLN.out HD.out HB.out HLM.out).mono ?_; rintro x w1 ⟨rfl, rfl⟩)
        go_ret3
        rw [HR.out]
        exact ⟨_, rfl, own64_nil _ _, Below.refl _ _⟩
    · have HR : Hid (decAll l most = vdecN u l p []) := by
        show _ = _
        unfold decAll
        rw [hd, if_neg (by simp), if_neg (by rw [← hM]; exact hbig)]
      have HMEM : Hid (∀ x ∈ l, x < 256) := hb.mem
      have hle : (u : Int) ≤ (M : Int) := by omega
      have hor : (most < 0 ∧ M = 0) ∨ (0 ≤ most ∧ (M : Int) = most) := by omega
      have hor2 : ∃ C : Nat, C ≤ 16777216 ∧ (((n : Int) - (p : Int) < (u : Int) ∧ (C : Int) ≤ (n : Int) - (p : Int) ∧ (n : Int) - (p : Int) ≤ (C : Int)) ∨ ((u : Int) ≤ (n : Int) - (p : Int) ∧ C ≤ u ∧ u ≤ C)) := by
        by_cases h : (n : Int) - (p : Int) < (u : Int)
        · exact ⟨n - p, by omega, .inl ⟨h, by omega, by omega⟩⟩
        · exact ⟨u, by omega, .inr ⟨by omega, by omega, by omega⟩⟩
      obtain ⟨C, hC1, hC2⟩ := hor2
      have hpI : (p : Int) ≤ (n : Int) := by omega
      have hnI : (n : Int) ≤ 140737488351232 := by omega
      clear hb hd hcl hM hn f5 hne hbig
      have hcases : (most < 0 ∧ (u : Int) ≤ 0) ∨ (0 ≤ most ∧ (u : Int) ≤ most) := by omega
      clear hor hle
      by_cases hu0 : u = 0
      · subst hu0
        have HR0 : Hid (decAll l most = ([], p, 0)) := HR.out
        have hC0 : C = 0 := by omega
        subst hC0
        clear hC2 HR
        rcases hcases with ⟨g1, g2⟩ | ⟨g1, g2⟩
        all_goals
          clear g2
          go_enter Tryd.func26, Tryd.ntmps26
          go_wp2_with (first
            | (go_at_call 44; refine (rdec_at l _ 0 p 0 _ _ _ HLN.out HD.out HB.out HLM.out).mono ?_; rintro x w1 ⟨rfl, rfl⟩)
            | fail)
          refine wp_loop_rounds 1 ?_
          rw [rounds_succ]
          go_wp2
          go_ret3
          rw [HR0.out]
          exact ⟨_, rfl, litq w, (Below.refl _ _).alloc (Nat.le_refl _) _⟩
      · obtain ⟨g1, g2⟩ : 0 ≤ most ∧ (u : Int) ≤ most := by omega
        clear hcases hu0
        clear hC2
        all_goals
          go_enter Tryd.func26, Tryd.ntmps26
          go_wp2_with (go_at_call 44; refine (rdec_at l _ _ p 0 _ _ _ HLN.out HD.out HB.out HLM.out).mono ?_; rintro x w1 ⟨rfl, rfl⟩)
          go_loopw [8, 10] (fun vp vus wr => ∃ (j q : Nat) (acc : List Nat) (a9 : Option Addr) (c9 : Nat), j ≤ u ∧ vus = .slice a9 j c9 ∧ vp = .int .i64 q ∧ q ≤ n ∧ acc.length = j ∧ j ≤ q ∧ Own64 wr w.heap.size (.slice a9 j c9) acc ∧ decAll l most = vdecN (u - j) l q acc ∧ Below w.heap.size w wr) (fun _ vus _ => u - lenOf vus)
          case atStart => exact ⟨0, p, [], _, _, Nat.zero_le _, rfl, rfl, f2, rfl, Nat.zero_le _, litq w, HR.out, (Below.refl _ _).alloc (Nat.le_refl _) _⟩
          case round =>
            obtain ⟨j, q, acc, a9, c9, hj, rfl, rfl, hq, hacc, hjq, hown, hdec, hbr⟩ := hrel
            have hjI : (j : Int) ≤ 16777216 := by omega
            have HDEC : Hid (decAll l most = vdecN (u - j) l q acc) := hdec
            have HOWN : Hid (_) := hown
            have HACC : Hid (acc.length = j) := hacc
            clear hdec hown hacc HR
            have hqI : (q : Int) ≤ (n : Int) := by omega
            have hqc : (q : Int) ≤ (cap : Int) := by omega
            by_cases hju : j < u
            · obtain ⟨u2, k2, e2, hd2⟩ : ∃ u2 k2 e2, dec 0 0 (l.drop q) = (u2, k2, e2) := ⟨_, _, _, rfl⟩
              have hstep : decAll l most = if e2 = 0 then vdecN (u - (j + 1)) l (q + k2) (acc ++ [u2]) else ([], 0, e2) := by
                rw [HDEC.out, show u - j = (u - (j + 1)) + 1 from by omega, decN_succ _ _ _ _ _ _ _ hd2]
              have HST : Hid (_ = _) := hstep
              have HD2 : Hid (_ = _) := hd2
              have HL2 : Hid ((l.drop q).length = n - q) := by show _ = _; rw [List.length_drop, HLN.out]
              have HM2 : Hid ((l.drop q).length ≤ maxLen) := by show _ ≤ _; rw [List.length_drop, HLN.out]; unfold maxLen; omega
              by_cases he2 : e2 = 0
              · subst he2
                have hf := vdec_form (l.drop q) (fun x hx => HMEM.out x (List.mem_of_mem_drop hx)) (by rw [hd2])
                rw [hd2] at hf
                simp only at hf
                obtain ⟨t1, t2, t3, t4, t5⟩ := hf
                rw [HL2.out] at t2
                have hqn : q < n := by omega
                have hu2 : u2 < 18446744073709551616 := by omega
                have HU2 : Hid (_ < _) := hu2
                have HST2 : Hid (decAll l most = vdecN (u - (j + 1)) l (q + k2) (acc ++ [u2])) := by show _ = _; rw [HST.out, if_pos rfl]
                have HBq : Hid (Bytes wr (some ⟨b, off + q, none⟩) (l.drop q)) := (HB.out.keep hbr).drop q
                have hoa := HOWN.out.2
                rw [HACC.out] at hoa
                have HOA : Hid (_) := hoa
                clear hoa
                have hsz := hbr.size
                have hk2I : (q : Int) + (k2 : Int) ≤ 281474976710656 := by omega
                clear hd2 hstep t5 hu2 HST t4 HDEC
                go_wp2_with (first
                  | (go_at_call 44; refine (rdec_at (l.drop q) _ u2 k2 0 _ _ _ HL2.out HD2.out HBq.out HM2.out).mono ?_; rintro x w2 ⟨rfl, rfl⟩)
                  | (at_builtin; refine wpList_append_own _ rfl _ _ 48 rfl w.heap.size 47 i0 (.int .u64 0) 1 8 Tryd.underlying48 hi hz0 hz1 hz2 rfl (by decide) _ _ _ rfl (World.ownsRow.alloc HOA.out _) ⟨wr.heap.size, 0, none⟩ 1 1 [.int .u64 (u2 : Int)] rfl rfl (cell_new _ _ _) (one_new _) (by unfold maxLen; omega) (by omega) (by simp; omega) ?_; intro v4 w4 ho4 hg4 _; have hb4 := grown_row (hbr.alloc hsz _) (World.ownsRow.alloc HOA.out _) (by simp; omega) hg4; clear hg4; have ho8 : Own64 w4 w.heap.size v4 (acc ++ [u2]) := Own64.snoc HOWN.out.1 HU2.out (by rw [HACC.out]; exact ho4); obtain ⟨a8, c8, hv8⟩ := ho8.shaped (j + 1) (by rw [List.length_append, HACC.out]; rfl); subst hv8; have HO8 : Hid (Own64 w4 w.heap.size (.slice a8 (j + 1) c8) (acc ++ [u2])) := ho8; clear ho8 ho4))
                go_roundw
                case rel =>
                  refine ⟨j + 1, q + k2, acc ++ [u2], a8, c8, by omega, rfl, by go_num, by omega, by rw [List.length_append, HACC.out]; rfl, by omega, HO8.out, HST2.out, hb4⟩
                case measure => simp [lenOf]; omega
              · have hz := dec_zero 0 0 (l.drop q) (by rw [hd2]; exact he2)
                rw [hd2] at hz
                simp only at hz
                obtain ⟨rfl, rfl⟩ := hz
                have HST2 : Hid (decAll l most = ([], 0, e2)) := by show _ = _; rw [HST.out, if_neg he2]
                have heb : ((e2 : Int) != 0) = true := by simp; omega
                have hb9 : Bytes wr (some ⟨b, off + q, none⟩) (l.drop q) := (HB.out.keep hbr).drop q
                have HBq : Hid (Bytes wr (some ⟨b, off + q, none⟩) (l.drop q)) := hb9
                have hq3 : q < n ∨ q = n := by omega
                clear hd2 hstep HST HDEC he2 HOWN hb9
                rcases hq3 with hq3 | hq3
                · go_wp2_with (go_at_call 44; refine (rdec_at (l.drop q) _ 0 0 e2 _ _ _ HL2.out HD2.out HBq.out HM2.out).mono ?_; rintro x w2 ⟨rfl, rfl⟩)
                  go_ret3
                  rw [HST2.out]
                  exact ⟨_, rfl, own64_nil _ _, hbr⟩
                · have HNIL : Hid (l.drop q = []) := by show _ = _; exact List.drop_eq_nil_of_le (by rw [HLN.out]; omega)
                  have HD3 : Hid (dec 0 0 [] = (0, 0, e2)) := by have h := HD2.out; rw [HNIL.out] at h; exact h
                  subst hq3
                  go_wp2_with (go_at_call 44; refine (rdec_at [] _ 0 0 e2 _ _ _ (by simp) HD3.out (Bytes.none _ _) (by simp)).mono ?_; rintro x w2 ⟨rfl, rfl⟩)
                  all_goals go_ret3
                  all_goals rw [HST2.out]
                  all_goals exact ⟨_, rfl, own64_nil _ _, hbr⟩
            · have hju2 : j = u := by omega
              subst hju2
              have HFIN : Hid (decAll l most = (acc, q, 0)) := by show _ = _; rw [HDEC.out, Nat.sub_self]; rfl
              clear HDEC
              go_wp2
              go_ret3
              rw [HFIN.out]
              exact ⟨_, rfl, HOWN.out, hbr⟩
  · have HR : Hid (decAll l most = ([], 0, e)) := by
      show _ = _
      unfold decAll
      rw [hd, if_pos (by simpa using he)]
    have hz := dec_zero 0 0 l (by rw [hd]; exact he)
    rw [hd] at hz
    simp only at hz
    obtain ⟨rfl, rfl⟩ := hz
    have heb : ((e : Int) != 0) = true := by simp; omega
    clear hb hd he hn
    go_enter Tryd.func26, Tryd.ntmps26
    go_wp2_with (go_at_call 44; refine (rdec_at l _ 0 0 e _ _ _ HLN.out HD.out HB.out HLM.out).mono ?_; rintro x w1 ⟨rfl, rfl⟩)
    go_ret3
    rw [HR.out]
    exact ⟨_, rfl, own64_nil _ _, Below.refl _ _⟩
end Go.Proofs.YtoneaannbmkeiaaDoor
namespace Go.Proofs.YtoneaannbmkeiaaDoor
open Go.ChangeShapes Go.WideShapes Go.ChangeAt Go.RowKit
set_option linter.unusedVariables false
set_option maxRecDepth 20000 in
set_option maxHeartbeats 2000000 in
theorem rmd_bad1 (l : List Nat) (n : Nat) (a : Option Addr) (cap : Nat) (w : World) (hn : l.length = n) (hb : Bytes w a l) (hcap : n ≤ cap) (hl : n ≤ 140737488351232) (h : decE l ≠ 0) :
    Calls Tryd.prog 15 #[.slice a n cap] w fun e w' => e = .returned (.tuple #[MfV zeroM (.slice none 0 0), .int .i64 80]) ∧ Below w.heap.size w w' := by
  have HX : Hid (l.length = n ∧ Bytes w a l ∧ l.length ≤ cap ∧ l.length ≤ 281474976710656) := ⟨hn, hb, by omega, by omega⟩
  have HM0 : Hid (MfAt (w.alloc (.cells (mfA zeroM (.slice none 0 0)) 24)) w.heap.size zeroM (.slice none 0 0)) := MfAt.new w zeroM _
  have HB0 : Hid (Below w.heap.size w (w.alloc (.cells (mfA zeroM (.slice none 0 0)) 24))) := (Below.refl _ _).alloc (Nat.le_refl _) _
  obtain ⟨K, hK⟩ : ∃ K, decK l = K := ⟨_, rfl⟩
  obtain ⟨S, hS⟩ : ∃ S, decS l = S := ⟨_, rfl⟩
  obtain ⟨N, hN⟩ : ∃ N, decN l = N := ⟨_, rfl⟩
  obtain ⟨E, hE⟩ : ∃ E, decE l = E := ⟨_, rfl⟩
  obtain ⟨B, hB⟩ : ∃ B, (decB l).length = B := ⟨_, rfl⟩
  have HV : Hid (∀ v, DV l v = .tuple #[FrV (K : Int) (S : Int) v, .int .i64 (N : Int), .int .i64 (E : Int)]) := fun v => by rw [← hK, ← hS, ← hN, ← hE]
  have hBl : B ≤ n := by rw [← hB, ← hn]; unfold decB; split <;> simp <;> omega
  have HBL : Hid ((decB l).length = B ∧ B ≤ 140737488351232) := ⟨hB, by omega⟩
  have T1 : Hid True := trivial
  have hq : ((E : Int) != 0) = true := by rw [← hE]; simp; exact h
  clear hn hb hcap hl hK hS hN hE hB hBl h
  go_enter Tryd.func15, Tryd.ntmps15
  go_wp2_with (first
    | (go_at_call 25; refine (rfdec_any l n a cap _ HX.out.1 (HX.out.2.1.keep HB0.out) HX.out.2.2.2 HX.out.2.2.1).mono ?_; rintro _ w1 ⟨v1, rfl, ho1, hb1⟩; rw [HV.out v1]; obtain ⟨a1, c1, hv1, hc1, _, hy1, _⟩ := ho1.shape; rw [HBL.out.1] at hv1 hc1; subst hv1; have HY1 : Hid (Bytes w1 a1 (decB l) ∧ B ≤ c1) := ⟨hy1, hc1⟩; have HM1 : Hid (MfAt w1 w.heap.size zeroM (.slice none 0 0)) := HM0.out.after hb1; have HB1 : Hid (Below w.heap.size w w1) := below_next HB0.out hb1; have HL1 : Hid (w.heap.size < w1.heap.size) := HM1.out.lt; clear ho1 hb1 hy1 hc1)
    | ((with_reducible refine frm_store 52 ?_); clear T1; refine wpList_store_frm rfl _ _ rfl rfl (FrmAt.new w1 0 0 (.slice none 0 0)) rfl rfl rfl ?_; intro w2 hf2 ho2 hh2 hs2; have HB2 : Hid (Below w.heap.size w w2) := below_one (HB1.out.alloc HB1.out.size _) ho2 hh2 hs2 HB1.out.size; have HM2 : Hid (MfAt w2 w.heap.size zeroM (.slice none 0 0)) := (hh2 _ (by have := HL1.out; omega)).trans (HM1.out.after ((Below.refl _ _).alloc (Nat.le_refl _) _)); have HY2 : Hid (Bytes w2 a1 (decB l)) := HY1.out.1.keep (below_one ((Below.refl _ _).alloc (Nat.le_refl _) _) ho2 hh2 hs2 (Nat.le_refl _)); obtain ⟨x0, x1, x2⟩ := hf2.cells; have hl2 : w1.heap.size < w2.heap.size := lt_of_heap hf2; clear hf2 ho2 hh2 hs2)
    | ((with_reducible refine frm_store 24 ?_); refine wpList_store_mf rfl _ _ rfl rfl HM2.out rfl (m2 := zeroM) (a2 := none) (n2 := 0) (c2 := 0) rfl ?_; intro w3 hf ho hh hs; have HM3 : Hid (MfAt w3 w.heap.size zeroM (.slice none 0 0)) := hf; have HB3 : Hid (Below w.heap.size w w3) := ho _ _ HB2.out (Nat.le_refl _); clear hf ho hh hs))
  (try simp only [Exit.inBlock, Exit.then])
  exact bodyPost_ret (results_mf2 rfl _ _ w.heap.size _ rfl rfl HM3.out) rfl ⟨rfl, HB3.out⟩
set_option maxRecDepth 20000 in
set_option maxHeartbeats 2000000 in
theorem rmd_bad2 (l : List Nat) (n : Nat) (a : Option Addr) (cap : Nat) (w : World) (hn : l.length = n) (hb : Bytes w a l) (hcap : n ≤ cap) (hl : n ≤ 140737488351232) (h0 : decE l = 0) (h : decN l ≠ l.length) :
    Calls Tryd.prog 15 #[.slice a n cap] w fun e w' => e = .returned (.tuple #[MfV zeroM (.slice none 0 0), .int .i64 80]) ∧ Below w.heap.size w w' := by
  have HX : Hid (l.length = n ∧ Bytes w a l ∧ l.length ≤ cap ∧ l.length ≤ 281474976710656) := ⟨hn, hb, by omega, by omega⟩
  have HM0 : Hid (MfAt (w.alloc (.cells (mfA zeroM (.slice none 0 0)) 24)) w.heap.size zeroM (.slice none 0 0)) := MfAt.new w zeroM _
  have HB0 : Hid (Below w.heap.size w (w.alloc (.cells (mfA zeroM (.slice none 0 0)) 24))) := (Below.refl _ _).alloc (Nat.le_refl _) _
  obtain ⟨K, hK⟩ : ∃ K, decK l = K := ⟨_, rfl⟩
  obtain ⟨S, hS⟩ : ∃ S, decS l = S := ⟨_, rfl⟩
  obtain ⟨N, hN⟩ : ∃ N, decN l = N := ⟨_, rfl⟩
  obtain ⟨E, hE⟩ : ∃ E, decE l = E := ⟨_, rfl⟩
  obtain ⟨B, hB⟩ : ∃ B, (decB l).length = B := ⟨_, rfl⟩
  have HV : Hid (∀ v, DV l v = .tuple #[FrV (K : Int) (S : Int) v, .int .i64 (N : Int), .int .i64 (E : Int)]) := fun v => by rw [← hK, ← hS, ← hN, ← hE]
  have hBl : B ≤ n := by rw [← hB, ← hn]; unfold decB; split <;> simp <;> omega
  have HBL : Hid ((decB l).length = B ∧ B ≤ 140737488351232) := ⟨hB, by omega⟩
  have T1 : Hid True := trivial
  have hq : ((E : Int) != 0) = false := by rw [← hE, h0]; rfl
  have hq2 : ((N : Int) != (n : Int)) = true := by rw [← hN, ← hn]; simp; omega
  clear hn hb hcap hl hK hS hN hE hB hBl h h0
  go_enter Tryd.func15, Tryd.ntmps15
  go_wp2_with (first
    | (go_at_call 25; refine (rfdec_any l n a cap _ HX.out.1 (HX.out.2.1.keep HB0.out) HX.out.2.2.2 HX.out.2.2.1).mono ?_; rintro _ w1 ⟨v1, rfl, ho1, hb1⟩; rw [HV.out v1]; obtain ⟨a1, c1, hv1, hc1, _, hy1, _⟩ := ho1.shape; rw [HBL.out.1] at hv1 hc1; subst hv1; have HY1 : Hid (Bytes w1 a1 (decB l) ∧ B ≤ c1) := ⟨hy1, hc1⟩; have HM1 : Hid (MfAt w1 w.heap.size zeroM (.slice none 0 0)) := HM0.out.after hb1; have HB1 : Hid (Below w.heap.size w w1) := below_next HB0.out hb1; have HL1 : Hid (w.heap.size < w1.heap.size) := HM1.out.lt; clear ho1 hb1 hy1 hc1)
    | ((with_reducible refine frm_store 52 ?_); clear T1; refine wpList_store_frm rfl _ _ rfl rfl (FrmAt.new w1 0 0 (.slice none 0 0)) rfl rfl rfl ?_; intro w2 hf2 ho2 hh2 hs2; have HB2 : Hid (Below w.heap.size w w2) := below_one (HB1.out.alloc HB1.out.size _) ho2 hh2 hs2 HB1.out.size; have HM2 : Hid (MfAt w2 w.heap.size zeroM (.slice none 0 0)) := (hh2 _ (by have := HL1.out; omega)).trans (HM1.out.after ((Below.refl _ _).alloc (Nat.le_refl _) _)); have HY2 : Hid (Bytes w2 a1 (decB l)) := HY1.out.1.keep (below_one ((Below.refl _ _).alloc (Nat.le_refl _) _) ho2 hh2 hs2 (Nat.le_refl _)); obtain ⟨x0, x1, x2⟩ := hf2.cells; have hl2 : w1.heap.size < w2.heap.size := lt_of_heap hf2; clear hf2 ho2 hh2 hs2)
    | ((with_reducible refine frm_store 24 ?_); refine wpList_store_mf rfl _ _ rfl rfl HM2.out rfl (m2 := zeroM) (a2 := none) (n2 := 0) (c2 := 0) rfl ?_; intro w3 hf ho hh hs; have HM3 : Hid (MfAt w3 w.heap.size zeroM (.slice none 0 0)) := hf; have HB3 : Hid (Below w.heap.size w w3) := ho _ _ HB2.out (Nat.le_refl _); clear hf ho hh hs))
  (try simp only [Exit.inBlock, Exit.then])
  exact bodyPost_ret (results_mf2 rfl _ _ w.heap.size _ rfl rfl HM3.out) rfl ⟨rfl, HB3.out⟩
set_option maxRecDepth 20000 in
set_option maxHeartbeats 2000000 in
theorem rmd_bad3 (l : List Nat) (n : Nat) (a : Option Addr) (cap : Nat) (w : World) (hn : l.length = n) (hb : Bytes w a l) (hcap : n ≤ cap) (hl : n ≤ 140737488351232) (h0 : decE l = 0) (h1 : decN l = l.length) (h : (decAll (decB l) 1028).2.2 ≠ 0) :
    Calls Tryd.prog 15 #[.slice a n cap] w fun e w' => e = .returned (.tuple #[MfV zeroM (.slice none 0 0), .int .i64 80]) ∧ Below w.heap.size w w' := by
  have HX : Hid (l.length = n ∧ Bytes w a l ∧ l.length ≤ cap ∧ l.length ≤ 281474976710656) := ⟨hn, hb, by omega, by omega⟩
  have HM0 : Hid (MfAt (w.alloc (.cells (mfA zeroM (.slice none 0 0)) 24)) w.heap.size zeroM (.slice none 0 0)) := MfAt.new w zeroM _
  have HB0 : Hid (Below w.heap.size w (w.alloc (.cells (mfA zeroM (.slice none 0 0)) 24))) := (Below.refl _ _).alloc (Nat.le_refl _) _
  obtain ⟨K, hK⟩ : ∃ K, decK l = K := ⟨_, rfl⟩
  obtain ⟨S, hS⟩ : ∃ S, decS l = S := ⟨_, rfl⟩
  obtain ⟨N, hN⟩ : ∃ N, decN l = N := ⟨_, rfl⟩
  obtain ⟨E, hE⟩ : ∃ E, decE l = E := ⟨_, rfl⟩
  obtain ⟨B, hB⟩ : ∃ B, (decB l).length = B := ⟨_, rfl⟩
  have HV : Hid (∀ v, DV l v = .tuple #[FrV (K : Int) (S : Int) v, .int .i64 (N : Int), .int .i64 (E : Int)]) := fun v => by rw [← hK, ← hS, ← hN, ← hE]
  have hBl : B ≤ n := by rw [← hB, ← hn]; unfold decB; split <;> simp <;> omega
  have HBL : Hid ((decB l).length = B ∧ B ≤ 140737488351232) := ⟨hB, by omega⟩
  have T1 : Hid True := trivial
  obtain ⟨U, p, e, hd⟩ : ∃ U p e, decAll (decB l) 1028 = (U, p, e) := ⟨_, _, _, rfl⟩
  obtain ⟨u, hu⟩ : ∃ u, U.length = u := ⟨_, rfl⟩
  have HD : Hid (decAll (decB l) 1028 = (U, p, e)) := hd
  have HUL : Hid (U.length = u) := hu
  have hq : ((E : Int) != 0) = false := by rw [← hE, h0]; rfl
  have hq2 : ((N : Int) != (n : Int)) = false := by rw [← hN, ← hn, h1]; simp
  rw [hd] at h
  have hq3 : ((e : Int) != 0) = true := by simp; exact h
  clear hn hb hcap hl hK hS hN hE hB hBl h h0 h1 hd hu
  go_enter Tryd.func15, Tryd.ntmps15
  go_wp2_with (first
    | (go_at_call 25; refine (rfdec_any l n a cap _ HX.out.1 (HX.out.2.1.keep HB0.out) HX.out.2.2.2 HX.out.2.2.1).mono ?_; rintro _ w1 ⟨v1, rfl, ho1, hb1⟩; rw [HV.out v1]; obtain ⟨a1, c1, hv1, hc1, _, hy1, _⟩ := ho1.shape; rw [HBL.out.1] at hv1 hc1; subst hv1; have HY1 : Hid (Bytes w1 a1 (decB l) ∧ B ≤ c1) := ⟨hy1, hc1⟩; have HM1 : Hid (MfAt w1 w.heap.size zeroM (.slice none 0 0)) := HM0.out.after hb1; have HB1 : Hid (Below w.heap.size w w1) := below_next HB0.out hb1; have HL1 : Hid (w.heap.size < w1.heap.size) := HM1.out.lt; clear ho1 hb1 hy1 hc1)
    | ((with_reducible refine frm_store 52 ?_); clear T1; refine wpList_store_frm rfl _ _ rfl rfl (FrmAt.new w1 0 0 (.slice none 0 0)) rfl rfl rfl ?_; intro w2 hf2 ho2 hh2 hs2; have HB2 : Hid (Below w.heap.size w w2) := below_one (HB1.out.alloc HB1.out.size _) ho2 hh2 hs2 HB1.out.size; have HM2 : Hid (MfAt w2 w.heap.size zeroM (.slice none 0 0)) := (hh2 _ (by have := HL1.out; omega)).trans (HM1.out.after ((Below.refl _ _).alloc (Nat.le_refl _) _)); have HY2 : Hid (Bytes w2 a1 (decB l)) := HY1.out.1.keep (below_one ((Below.refl _ _).alloc (Nat.le_refl _) _) ho2 hh2 hs2 (Nat.le_refl _)); obtain ⟨x0, x1, x2⟩ := hf2.cells; have hl2 : w1.heap.size < w2.heap.size := lt_of_heap hf2; clear hf2 ho2 hh2 hs2)
    | (go_at_call 26; refine (rdecAll_any (decB l) 1028 B a1 c1 _ HBL.out.1 HY2.out HY1.out.2 HBL.out.2 (by omega) (by omega) (by omega)).mono ?_; rw [HD.out]; rintro _ w3 ⟨v3, rfl, ho3, hb3⟩; obtain ⟨a3, c3, hv3, _⟩ := ho3.slice; rw [HUL.out] at hv3; subst hv3; have HM3 : Hid (MfAt w3 w.heap.size zeroM (.slice none 0 0)) := HM2.out.after hb3; have HB3 : Hid (Below w.heap.size w w3) := below_next HB2.out hb3; clear ho3 hb3)
    | ((with_reducible refine frm_store 24 ?_); refine wpList_store_mf rfl _ _ rfl rfl HM3.out rfl (m2 := zeroM) (a2 := none) (n2 := 0) (c2 := 0) rfl ?_; intro w4 hf ho hh hs; have HM4 : Hid (MfAt w4 w.heap.size zeroM (.slice none 0 0)) := hf; have HB4 : Hid (Below w.heap.size w w4) := ho _ _ HB3.out (Nat.le_refl _); clear hf ho hh hs))
  (try simp only [Exit.inBlock, Exit.then])
  exact bodyPost_ret (results_mf2 rfl _ _ w.heap.size _ rfl rfl HM4.out) rfl ⟨rfl, HB4.out⟩
set_option maxRecDepth 20000 in
set_option maxHeartbeats 2000000 in
theorem rmd_bad4 (l : List Nat) (n : Nat) (a : Option Addr) (cap : Nat) (w : World) (hn : l.length = n) (hb : Bytes w a l) (hcap : n ≤ cap) (hl : n ≤ 140737488351232) (h0 : decE l = 0) (h1 : decN l = l.length) (h2 : (decAll (decB l) 1028).2.2 = 0) (h : (decAll (decB l) 1028).1.length < 4) :
    Calls Tryd.prog 15 #[.slice a n cap] w fun e w' => e = .returned (.tuple #[MfV zeroM (.slice none 0 0), .int .i64 80]) ∧ Below w.heap.size w w' := by
  have HX : Hid (l.length = n ∧ Bytes w a l ∧ l.length ≤ cap ∧ l.length ≤ 281474976710656) := ⟨hn, hb, by omega, by omega⟩
  have HM0 : Hid (MfAt (w.alloc (.cells (mfA zeroM (.slice none 0 0)) 24)) w.heap.size zeroM (.slice none 0 0)) := MfAt.new w zeroM _
  have HB0 : Hid (Below w.heap.size w (w.alloc (.cells (mfA zeroM (.slice none 0 0)) 24))) := (Below.refl _ _).alloc (Nat.le_refl _) _
  obtain ⟨K, hK⟩ : ∃ K, decK l = K := ⟨_, rfl⟩
  obtain ⟨S, hS⟩ : ∃ S, decS l = S := ⟨_, rfl⟩
  obtain ⟨N, hN⟩ : ∃ N, decN l = N := ⟨_, rfl⟩
  obtain ⟨E, hE⟩ : ∃ E, decE l = E := ⟨_, rfl⟩
  obtain ⟨B, hB⟩ : ∃ B, (decB l).length = B := ⟨_, rfl⟩
  have HV : Hid (∀ v, DV l v = .tuple #[FrV (K : Int) (S : Int) v, .int .i64 (N : Int), .int .i64 (E : Int)]) := fun v => by rw [← hK, ← hS, ← hN, ← hE]
  have hBl : B ≤ n := by rw [← hB, ← hn]; unfold decB; split <;> simp <;> omega
  have HBL : Hid ((decB l).length = B ∧ B ≤ 140737488351232) := ⟨hB, by omega⟩
  have T1 : Hid True := trivial
  obtain ⟨U, p, e, hd⟩ : ∃ U p e, decAll (decB l) 1028 = (U, p, e) := ⟨_, _, _, rfl⟩
  obtain ⟨u, hu⟩ : ∃ u, U.length = u := ⟨_, rfl⟩
  have HD : Hid (decAll (decB l) 1028 = (U, p, e)) := hd
  have HUL : Hid (U.length = u) := hu
  have hq : ((E : Int) != 0) = false := by rw [← hE, h0]; rfl
  have hq2 : ((N : Int) != (n : Int)) = false := by rw [← hN, ← hn, h1]; simp
  rw [hd] at h
  rw [hd] at h2
  have hq3 : ((e : Int) != 0) = false := by simp only at h2; rw [h2]; rfl
  have hq4 : decide ((u : Int) < 4) = true := by simp only [hu] at h; simp; omega
  clear hn hb hcap hl hK hS hN hE hB hBl h h0 h1 h2 hd hu
  go_enter Tryd.func15, Tryd.ntmps15
  go_wp2_with (first
    | (go_at_call 25; refine (rfdec_any l n a cap _ HX.out.1 (HX.out.2.1.keep HB0.out) HX.out.2.2.2 HX.out.2.2.1).mono ?_; rintro _ w1 ⟨v1, rfl, ho1, hb1⟩; rw [HV.out v1]; obtain ⟨a1, c1, hv1, hc1, _, hy1, _⟩ := ho1.shape; rw [HBL.out.1] at hv1 hc1; subst hv1; have HY1 : Hid (Bytes w1 a1 (decB l) ∧ B ≤ c1) := ⟨hy1, hc1⟩; have HM1 : Hid (MfAt w1 w.heap.size zeroM (.slice none 0 0)) := HM0.out.after hb1; have HB1 : Hid (Below w.heap.size w w1) := below_next HB0.out hb1; have HL1 : Hid (w.heap.size < w1.heap.size) := HM1.out.lt; clear ho1 hb1 hy1 hc1)
    | ((with_reducible refine frm_store 52 ?_); clear T1; refine wpList_store_frm rfl _ _ rfl rfl (FrmAt.new w1 0 0 (.slice none 0 0)) rfl rfl rfl ?_; intro w2 hf2 ho2 hh2 hs2; have HB2 : Hid (Below w.heap.size w w2) := below_one (HB1.out.alloc HB1.out.size _) ho2 hh2 hs2 HB1.out.size; have HM2 : Hid (MfAt w2 w.heap.size zeroM (.slice none 0 0)) := (hh2 _ (by have := HL1.out; omega)).trans (HM1.out.after ((Below.refl _ _).alloc (Nat.le_refl _) _)); have HY2 : Hid (Bytes w2 a1 (decB l)) := HY1.out.1.keep (below_one ((Below.refl _ _).alloc (Nat.le_refl _) _) ho2 hh2 hs2 (Nat.le_refl _)); obtain ⟨x0, x1, x2⟩ := hf2.cells; have hl2 : w1.heap.size < w2.heap.size := lt_of_heap hf2; clear hf2 ho2 hh2 hs2)
    | (go_at_call 26; refine (rdecAll_any (decB l) 1028 B a1 c1 _ HBL.out.1 HY2.out HY1.out.2 HBL.out.2 (by omega) (by omega) (by omega)).mono ?_; rw [HD.out]; rintro _ w3 ⟨v3, rfl, ho3, hb3⟩; obtain ⟨a3, c3, hv3, _⟩ := ho3.slice; rw [HUL.out] at hv3; subst hv3; have HM3 : Hid (MfAt w3 w.heap.size zeroM (.slice none 0 0)) := HM2.out.after hb3; have HB3 : Hid (Below w.heap.size w w3) := below_next HB2.out hb3; clear ho3 hb3)
    | ((with_reducible refine frm_store 24 ?_); refine wpList_store_mf rfl _ _ rfl rfl HM3.out rfl (m2 := zeroM) (a2 := none) (n2 := 0) (c2 := 0) rfl ?_; intro w4 hf ho hh hs; have HM4 : Hid (MfAt w4 w.heap.size zeroM (.slice none 0 0)) := hf; have HB4 : Hid (Below w.heap.size w w4) := ho _ _ HB3.out (Nat.le_refl _); clear hf ho hh hs))
  (try simp only [Exit.inBlock, Exit.then])
  exact bodyPost_ret (results_mf2 rfl _ _ w.heap.size _ rfl rfl HM4.out) rfl ⟨rfl, HB4.out⟩
end Go.Proofs.YtoneaannbmkeiaaDoor
