/- Own texts, joined: RdecAl. -/
import Derived.Test.YtfnkhpijcbpeoaaDoorK27
import Derived.Test.YtfnkhpijcbpeoaaDoorK44
namespace Go.Proofs.YtfnkhpijcbpeoaaDoor
open Go.ChangeShapes Go.WideShapes Go.ChangeAt Go.RowKit
set_option linter.unusedVariables false
def lenOf : Value → Nat
  | .slice _ n _ => n
  | _ => 0
theorem litq (w : World) : Own64 (w.alloc (.cells #[] 62)) w.heap.size (.slice (some ⟨w.heap.size, 0, none⟩) 0 0) [] :=
  ⟨by simp, World.ownsRow_lit w #[] 0 (Nat.le_refl _) (by simp) rfl⟩
theorem Own64.shaped {w : World} {base : Nat} {v : Value} {l : List Nat} (h : Own64 w base v l) (n : Nat) (hn : l.length = n) : ∃ a c, v = .slice a n c := by
  obtain ⟨a, c, h1, _⟩ := h.slice
  exact ⟨a, c, by rw [h1, hn]⟩
set_option maxRecDepth 20000 in
set_option maxHeartbeats 2000000 in
theorem rdecAll_any (l : List Nat) (most : Int) (n : Nat) (a : Option Addr) (cap : Nat) (w : World) (hn : l.length = n) (hb : Bytes w a l) (hcap : n ≤ cap) (hl : n ≤ 140737488351232) (hmk : most ≤ 16777216) (hm0 : -9223372036854775808 ≤ most) (hm1 : most ≤ 9223372036854775807) :
    Calls Tryd.prog 43 #[.slice a n cap, .int .i64 most] w fun x w' => ∃ v, x = .returned (.tuple #[v, .int .i64 (decAll l most).2.1, .int .i64 (decAll l most).2.2]) ∧ Own64 w' w.heap.size v (decAll l most).1 ∧ Below w.heap.size w w' := by
  obtain ⟨i0, hi, hz0, hz1, hz2⟩ := info_parts Tryd.info64
  obtain ⟨u, p, e, hd⟩ : ∃ u p e, dec 0 0 l = (u, p, e) := ⟨_, _, _, rfl⟩
  have HD : Hid (_ = _) := hd
  have HB : Hid (Bytes w a l) := hb
  have HLN : Hid (l.length = n) := hn
  have HLM : Hid (l.length ≤ maxLen) := by show _ ≤ _; rw [hn]; unfold maxLen; omega
  by_cases he : e = 0
  · subst he
    have hform := vdec_form l hb.mem (by rw [hd])
    rw [hd] at hform
    simp only at hform
    obtain ⟨f1, f2, f3, f4, f5⟩ := hform
    rw [hn] at f2
    have hne : l ≠ [] := by intro h; subst h; simp at hn; omega
    obtain ⟨b, off, rfl, hlt, hcl⟩ := hb.nonempty hne
    obtain ⟨M, hM⟩ : ∃ M : Nat, M = most.toNat := ⟨_, rfl⟩
    have huI : (u : Int) ≤ 18446744073709551615 := by omega
    by_cases hbig : M < u
    · have HR : Hid (decAll l most = ([], 0, 24)) := by
        show _ = _
        unfold decAll
        rw [hd, if_neg (by simp), if_pos (by rw [← hM]; exact hbig)]
      have hor : (most < 0 ∧ M = 0) ∨ (0 ≤ most ∧ (M : Int) = most) := by omega
      clear hb hd hcl hM hn f5 hne
      rcases hor with ⟨h1, rfl⟩ | ⟨h1, h2⟩
      · have h3 : (0 : Int) < (u : Int) := by omega
        go_enter Tryd.func43, Tryd.ntmps43
        go_wp2_with (go_at_call 21; refine (rdec_at l _ u p 0 _ _ _ HLN.out HD.out HB.out HLM.out).mono ?_; rintro x w1 ⟨rfl, rfl⟩)
        go_ret3
        rw [HR.out]
        exact ⟨_, rfl, own64_nil _ _, Below.refl _ _⟩
      · have h3 : most < (u : Int) := by omega
        clear h2
        go_enter Tryd.func43, Tryd.ntmps43
        go_wp2_with (go_at_call 21; refine (rdec_at l _ u p 0 _ _ _ HLN.out HD.out HB.out HLM.out).mono ?_; rintro x w1 ⟨rfl, rfl⟩)
        go_ret3
        rw [HR.out]
        exact ⟨_, rfl, own64_nil _ _, Below.refl _ _⟩
    · have HR : Hid (decAll l most = vdecN u l p []) := by
        show _ = _
        unfold decAll
        rw [hd, if_neg (by simp), if_neg (by rw [← hM]; exact hbig)]
      have HMEM : Hid (∀ x ∈ l, x < 256) := hb.mem
      have hle : (u : Int) ≤ (M : Int) := by omega
      have hor : (most < 0 ∧ M = 0) ∨ (0 ≤ most ∧ (M : Int) = most) := by omega
      have hor2 : ∃ C : Nat, C ≤ 16777216 ∧ (((n : Int) - (p : Int) < (u : Int) ∧ (C : Int) ≤ (n : Int) - (p : Int) ∧ (n : Int) - (p : Int) ≤ (C : Int)) ∨ ((u : Int) ≤ (n : Int) - (p : Int) ∧ C ≤ u ∧ u ≤ C)) := by
        by_cases h : (n : Int) - (p : Int) < (u : Int)
        · exact ⟨n - p, by omega, .inl ⟨h, by omega, by omega⟩⟩
        · exact ⟨u, by omega, .inr ⟨by omega, by omega, by omega⟩⟩
      obtain ⟨C, hC1, hC2⟩ := hor2
      have hpI : (p : Int) ≤ (n : Int) := by omega
      have hnI : (n : Int) ≤ 140737488351232 := by omega
      clear hb hd hcl hM hn f5 hne hbig
      have hcases : (most < 0 ∧ (u : Int) ≤ 0) ∨ (0 ≤ most ∧ (u : Int) ≤ most) := by omega
      clear hor hle
      by_cases hu0 : u = 0
      · subst hu0
        have HR0 : Hid (decAll l most = ([], p, 0)) := HR.out
        have hC0 : C = 0 := by omega
        subst hC0
        clear hC2 HR
        rcases hcases with ⟨g1, g2⟩ | ⟨g1, g2⟩
        all_goals
          clear g2
          go_enter Tryd.func43, Tryd.ntmps43
          go_wp2_with (first
            | (go_at_call 21; refine (rdec_at l _ 0 p 0 _ _ _ HLN.out HD.out HB.out HLM.out).mono ?_; rintro x w1 ⟨rfl, rfl⟩)
            | fail)
          refine wp_loop_rounds 1 ?_
          rw [rounds_succ]
          go_wp2
          go_ret3
          rw [HR0.out]
          exact ⟨_, rfl, litq w, (Below.refl _ _).alloc (Nat.le_refl _) _⟩
      · obtain ⟨g1, g2⟩ : 0 ≤ most ∧ (u : Int) ≤ most := by omega
        clear hcases hu0
        clear hC2
        all_goals
          go_enter Tryd.func43, Tryd.ntmps43
          go_wp2_with (go_at_call 21; refine (rdec_at l _ _ p 0 _ _ _ HLN.out HD.out HB.out HLM.out).mono ?_; rintro x w1 ⟨rfl, rfl⟩)
          go_loopw [8, 10] (fun vp vus wr => ∃ (j q : Nat) (acc : List Nat) (a9 : Option Addr) (c9 : Nat), j ≤ u ∧ vus = .slice a9 j c9 ∧ vp = .int .i64 q ∧ q ≤ n ∧ acc.length = j ∧ j ≤ q ∧ Own64 wr w.heap.size (.slice a9 j c9) acc ∧ decAll l most = vdecN (u - j) l q acc ∧ Below w.heap.size w wr) (fun _ vus _ => u - lenOf vus)
          case atStart => exact ⟨0, p, [], _, _, Nat.zero_le _, rfl, rfl, f2, rfl, Nat.zero_le _, litq w, HR.out, (Below.refl _ _).alloc (Nat.le_refl _) _⟩
          case round =>
            obtain ⟨j, q, acc, a9, c9, hj, rfl, rfl, hq, hacc, hjq, hown, hdec, hbr⟩ := hrel
            have hjI : (j : Int) ≤ 16777216 := by omega
            have HDEC : Hid (decAll l most = vdecN (u - j) l q acc) := hdec
            have HOWN : Hid (_) := hown
            have HACC : Hid (acc.length = j) := hacc
            clear hdec hown hacc HR
            have hqI : (q : Int) ≤ (n : Int) := by omega
            have hqc : (q : Int) ≤ (cap : Int) := by omega
            by_cases hju : j < u
            · obtain ⟨u2, k2, e2, hd2⟩ : ∃ u2 k2 e2, dec 0 0 (l.drop q) = (u2, k2, e2) := ⟨_, _, _, rfl⟩
              have hstep : decAll l most = if e2 = 0 then vdecN (u - (j + 1)) l (q + k2) (acc ++ [u2]) else ([], 0, e2) := by
                rw [HDEC.out, show u - j = (u - (j + 1)) + 1 from by omega, decN_succ _ _ _ _ _ _ _ hd2]
              have HST : Hid (_ = _) := hstep
              have HD2 : Hid (_ = _) := hd2
              have HL2 : Hid ((l.drop q).length = n - q) := by show _ = _; rw [List.length_drop, HLN.out]
              have HM2 : Hid ((l.drop q).length ≤ maxLen) := by show _ ≤ _; rw [List.length_drop, HLN.out]; unfold maxLen; omega
              by_cases he2 : e2 = 0
              · subst he2
                have hf := vdec_form (l.drop q) (fun x hx => HMEM.out x (List.mem_of_mem_drop hx)) (by rw [hd2])
                rw [hd2] at hf
                simp only at hf
                obtain ⟨t1, t2, t3, t4, t5⟩ := hf
                rw [HL2.out] at t2
                have hqn : q < n := by omega
                have hu2 : u2 < 18446744073709551616 := by omega
                have HU2 : Hid (_ < _) := hu2
                have HST2 : Hid (decAll l most = vdecN (u - (j + 1)) l (q + k2) (acc ++ [u2])) := by show _ = _; rw [HST.out, if_pos rfl]
                have HBq : Hid (Bytes wr (some ⟨b, off + q, none⟩) (l.drop q)) := (HB.out.keep hbr).drop q
                have hoa := HOWN.out.2
                rw [HACC.out] at hoa
                have HOA : Hid (_) := hoa
                clear hoa
                have hsz := hbr.size
                have hk2I : (q : Int) + (k2 : Int) ≤ 281474976710656 := by omega
                clear hd2 hstep t5 hu2 HST t4 HDEC
                go_wp2_with (first
                  | (go_at_call 21; refine (rdec_at (l.drop q) _ u2 k2 0 _ _ _ HL2.out HD2.out HBq.out HM2.out).mono ?_; rintro x w2 ⟨rfl, rfl⟩)
                  | (at_builtin; refine wpList_append_own _ rfl _ _ 61 rfl w.heap.size 62 i0 (.int .u64 0) 1 8 Tryd.underlying61 hi hz0 hz1 hz2 rfl (by decide) _ _ _ rfl (World.ownsRow.alloc HOA.out _) ⟨wr.heap.size, 0, none⟩ 1 1 [.int .u64 (u2 : Int)] rfl rfl (cell_new _ _ _) (one_new _) (by unfold maxLen; omega) (by omega) (by simp; omega) ?_; intro v4 w4 ho4 hg4 _; have hb4 := grown_row (hbr.alloc hsz _) (World.ownsRow.alloc HOA.out _) (by simp; omega) hg4; clear hg4; have ho8 : Own64 w4 w.heap.size v4 (acc ++ [u2]) := Own64.snoc HOWN.out.1 HU2.out (by rw [HACC.out]; exact ho4); obtain ⟨a8, c8, hv8⟩ := ho8.shaped (j + 1) (by rw [List.length_append, HACC.out]; rfl); subst hv8; have HO8 : Hid (Own64 w4 w.heap.size (.slice a8 (j + 1) c8) (acc ++ [u2])) := ho8; clear ho8 ho4))
                go_roundw
                case rel =>
                  refine ⟨j + 1, q + k2, acc ++ [u2], a8, c8, by omega, rfl, by go_num, by omega, by rw [List.length_append, HACC.out]; rfl, by omega, HO8.out, HST2.out, hb4⟩
                case measure => simp [lenOf]; omega
              · have hz := dec_zero 0 0 (l.drop q) (by rw [hd2]; exact he2)
                rw [hd2] at hz
                simp only at hz
                obtain ⟨rfl, rfl⟩ := hz
                have HST2 : Hid (decAll l most = ([], 0, e2)) := by show _ = _; rw [HST.out, if_neg he2]
                have heb : ((e2 : Int) != 0) = true := by simp; omega
                have hb9 : Bytes wr (some ⟨b, off + q, none⟩) (l.drop q) := (HB.out.keep hbr).drop q
                have HBq : Hid (Bytes wr (some ⟨b, off + q, none⟩) (l.drop q)) := hb9
                have hq3 : q < n ∨ q = n := by omega
                clear hd2 hstep HST HDEC he2 HOWN hb9
                rcases hq3 with hq3 | hq3
                · go_wp2_with (go_at_call 21; refine (rdec_at (l.drop q) _ 0 0 e2 _ _ _ HL2.out HD2.out HBq.out HM2.out).mono ?_; rintro x w2 ⟨rfl, rfl⟩)
                  go_ret3
                  rw [HST2.out]
                  exact ⟨_, rfl, own64_nil _ _, hbr⟩
                · have HNIL : Hid (l.drop q = []) := by show _ = _; exact List.drop_eq_nil_of_le (by rw [HLN.out]; omega)
                  have HD3 : Hid (dec 0 0 [] = (0, 0, e2)) := by have h := HD2.out; rw [HNIL.out] at h; exact h
                  subst hq3
                  go_wp2_with (go_at_call 21; refine (rdec_at [] _ 0 0 e2 _ _ _ (by simp) HD3.out (Bytes.none _ _) (by simp)).mono ?_; rintro x w2 ⟨rfl, rfl⟩)
                  all_goals go_ret3
                  all_goals rw [HST2.out]
                  all_goals exact ⟨_, rfl, own64_nil _ _, hbr⟩
            · have hju2 : j = u := by omega
              subst hju2
              have HFIN : Hid (decAll l most = (acc, q, 0)) := by show _ = _; rw [HDEC.out, Nat.sub_self]; rfl
              clear HDEC
              go_wp2
              go_ret3
              rw [HFIN.out]
              exact ⟨_, rfl, HOWN.out, hbr⟩
  · have HR : Hid (decAll l most = ([], 0, e)) := by
      show _ = _
      unfold decAll
      rw [hd, if_pos (by simpa using he)]
    have hz := dec_zero 0 0 l (by rw [hd]; exact he)
    rw [hd] at hz
    simp only at hz
    obtain ⟨rfl, rfl⟩ := hz
    have heb : ((e : Int) != 0) = true := by simp; omega
    clear hb hd he hn
    go_enter Tryd.func43, Tryd.ntmps43
    go_wp2_with (go_at_call 21; refine (rdec_at l _ 0 0 e _ _ _ HLN.out HD.out HB.out HLM.out).mono ?_; rintro x w1 ⟨rfl, rfl⟩)
    go_ret3
    rw [HR.out]
    exact ⟨_, rfl, own64_nil _ _, Below.refl _ _⟩
end Go.Proofs.YtfnkhpijcbpeoaaDoor
