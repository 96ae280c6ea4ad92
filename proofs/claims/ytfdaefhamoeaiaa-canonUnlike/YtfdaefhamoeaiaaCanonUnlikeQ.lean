/- Two valid states have one record just if they are the same: for every two states. -/
import Derived.Test.YtfdaefhamoeaiaaK47
import Derived.Test.YtfdaefhamoeaiaaJ48
import Derived.SizedLaws
import Derived.ChangeOld
import Derived.Deep.QuietTactic
import Derived.BigQuiet
namespace Go.Proofs.Ytfdaefhamoeaiaa.canonUnlike
open Go.ChangeShapes Go.WideShapes Go.ChangeAt Go.RowKit
set_option linter.unusedVariables false
set_option linter.unusedSimpArgs false
/-- two states in their boxes, their lines; nothing older has turned -/
structure UnC (w : World) (s t : St) (v u : Value) (a b : Option Addr) (x : World) : Prop where
  fst : StAt x w.heap.size s v
  snd : StAt x (w.heap.size + 1) t u
  l1 : Lns x a s.lines
  l2 : Lns x b t.lines
  bel : Below w.heap.size w x
theorem UnC.keep {w x y : World} {s t : St} {v u : Value} {a b : Option Addr} (h : UnC w s t v u a b x) (hb : Below x.heap.size x y) : UnC w s t v u a b y :=
  ⟨h.fst.after hb, h.snd.after hb, h.l1.keep hb, h.l2.keep hb, h.bel.trans (hb.mono h.bel.size)⟩
set_option maxRecDepth 20000 in
set_option maxHeartbeats 4000000 in
theorem walk (s : St) (a : Option Addr) (n cap : Nat) (t : St) (b : Option Addr) (m cap2 : Nat) (w : World) (hn : s.lines.length = n) (hl : Lns w a s.lines) (hc : n ≤ cap) (hm1 : n * 32 ≤ 140737488351232) (hn2 : t.lines.length = m) (hl2 : Lns w b t.lines) (hc2 : m ≤ cap2) (hm2 : m * 32 ≤ 140737488351232) :
    Calls Try.prog 5 #[.agg (stA s (.slice a n cap)), .agg (stA t (.slice b m cap2))] w fun r w' => r = .returned (.bool true) ∧ Below w.heap.size w w' := by
  have HN : Hid (s.lines.length = n ∧ t.lines.length = m) := ⟨hn, hn2⟩
  have hm : n * 32 ≤ 140737488351232 ∧ m * 32 ≤ 140737488351232 := ⟨hm1, hm2⟩
  have hlm : n ≤ maxLen ∧ m ≤ maxLen := by unfold maxLen; omega
  have HC0 : Hid (UnC w s t (.slice a n cap) (.slice b m cap2) a b ((w.alloc (.cells (stA s (.slice a n cap)) 25)).alloc (.cells (stA t (.slice b m cap2)) 25))) := by
    obtain ⟨W, hW, t1, t2, t3⟩ := two_st w s t (.slice a n cap) (.slice b m cap2)
    rw [hW]
    exact ⟨t1, t2, hl.keep t3, hl2.keep t3, t3⟩
  have T1 : Hid True := trivial
  have T2 : Hid True := trivial
  have T3 : Hid True := trivial
  clear hn hn2 hl hl2 hm1 hm2
  cases hv : vldB s with
  | false =>
    obtain ⟨l, hlE⟩ : ∃ l : List Nat, l = [] := ⟨_, rfl⟩
    have HE : Hid (cenc s = (l, 40)) := by rw [hlE]; exact if_neg (by rw [hv]; simp)
    obtain ⟨r, f, hF⟩ : ∃ r f, cenc t = (r, f) := ⟨_, _, rfl⟩
    have HF : Hid (cenc t = (r, f)) := hF
    clear hv hlE hF
    go_enter Try.func5, Try.ntmps5
    go_wp2_with (first
      | (go_at_call 6; refine (head09_any _).mono ?_; rintro _ x1 ⟨rfl, hb1⟩; have HC1 : Hid (UnC w s t (.slice a n cap) (.slice b m cap2) a b x1) := UnC.keep HC0.out hb1; clear hb1)
      | ((with_reducible refine guard_load 25 ?_); clear T1; refine wpList_load_st rfl _ rfl (UnC.fst HC1.out) rfl ?_)
      | (go_at_call 8; clear T2; refine (scopy_any s a n cap _ HN.out.1 (UnC.l1 HC1.out) hm.1).mono ?_; rintro _ x2 ⟨v2, rfl, ho2, hb2⟩; obtain ⟨a2, c2, hv2, _, _, hl2, _⟩ := ho2.shape; simp only [HN.out.1] at hv2; subst hv2; have HL2 : Hid (Lns x2 a2 s.lines) := hl2; have HC2 : Hid (UnC w s t (.slice a n cap) (.slice b m cap2) a b x2) := UnC.keep HC1.out hb2; clear hb2 ho2 hl2)
      | (go_at_call 7; clear T3; refine (cenc_any s a2 n c2 _ HN.out.1 HL2.out hlm.1).mono ?_; unfold CencPost; rw [HE.out]; rintro _ x3 ⟨v3, rfl, ho3, hb3⟩; obtain ⟨a3, c3, hv3, hc3, _, hy3, _⟩ := ho3.shape; subst hv3; have HY3 : Hid (Bytes x3 a3 l) := hy3; have HC3 : Hid (UnC w s t (.slice a n cap) (.slice b m cap2) a b x3) := UnC.keep HC2.out hb3; clear hb3 ho3 hy3)
      | ((with_reducible refine guard_load 25 ?_); refine wpList_load_st rfl _ rfl (UnC.snd HC3.out) rfl ?_)
      | (go_at_call 8; refine (scopy_any t b m cap2 _ HN.out.2 (UnC.l2 HC3.out) hm.2).mono ?_; rintro _ x4 ⟨v4, rfl, ho4, hb4⟩; obtain ⟨a4, c4, hv4, _, _, hl4, _⟩ := ho4.shape; simp only [HN.out.2] at hv4; subst hv4; have HL4 : Hid (Lns x4 a4 t.lines) := hl4; have HY4 : Hid (Bytes x4 a3 l) := HY3.out.keep hb4; have HC4 : Hid (UnC w s t (.slice a n cap) (.slice b m cap2) a b x4) := UnC.keep HC3.out hb4; clear hb4 ho4 hl4)
      | (go_at_call 7; refine (cenc_any t a4 m c4 _ HN.out.2 HL4.out hlm.2).mono ?_; unfold CencPost; rw [HF.out]; rintro _ x5 ⟨v5, rfl, ho5, hb5⟩; obtain ⟨a5, c5, hv5, hc5, _, hy5, _⟩ := ho5.shape; subst hv5; have HY5 : Hid (Bytes x5 a3 l) := HY4.out.keep hb5; have HZ5 : Hid (Bytes x5 a5 r) := hy5; have HC5 : Hid (UnC w s t (.slice a n cap) (.slice b m cap2) a b x5) := UnC.keep HC4.out hb5; clear hb5 ho5 hy5))
    go_ret
    exact ⟨rfl, HC5.out.bel⟩
  | true =>
    obtain ⟨l, hlE⟩ : ∃ l : List Nat, ones (sfs s) = l := ⟨_, rfl⟩
    have HE : Hid (cenc s = (l, 0)) := by rw [← hlE]; exact if_pos hv
    have hds := cdec_back hv
    cases hv2 : vldB t with
    | false =>
      obtain ⟨r, hrE⟩ : ∃ r : List Nat, r = [] := ⟨_, rfl⟩
      have HF : Hid (cenc t = (r, 40)) := by rw [hrE]; exact if_neg (by rw [hv2]; simp)
      clear hv hlE hv2 hrE hds
      go_enter Try.func5, Try.ntmps5
      go_wp2_with (first
        | (go_at_call 6; refine (head09_any _).mono ?_; rintro _ x1 ⟨rfl, hb1⟩; have HC1 : Hid (UnC w s t (.slice a n cap) (.slice b m cap2) a b x1) := UnC.keep HC0.out hb1; clear hb1)
        | ((with_reducible refine guard_load 25 ?_); clear T1; refine wpList_load_st rfl _ rfl (UnC.fst HC1.out) rfl ?_)
        | (go_at_call 8; clear T2; refine (scopy_any s a n cap _ HN.out.1 (UnC.l1 HC1.out) hm.1).mono ?_; rintro _ x2 ⟨v2, rfl, ho2, hb2⟩; obtain ⟨a2, c2, hv2, _, _, hl2, _⟩ := ho2.shape; simp only [HN.out.1] at hv2; subst hv2; have HL2 : Hid (Lns x2 a2 s.lines) := hl2; have HC2 : Hid (UnC w s t (.slice a n cap) (.slice b m cap2) a b x2) := UnC.keep HC1.out hb2; clear hb2 ho2 hl2)
        | (go_at_call 7; clear T3; refine (cenc_any s a2 n c2 _ HN.out.1 HL2.out hlm.1).mono ?_; unfold CencPost; rw [HE.out]; rintro _ x3 ⟨v3, rfl, ho3, hb3⟩; obtain ⟨a3, c3, hv3, hc3, _, hy3, _⟩ := ho3.shape; subst hv3; have HY3 : Hid (Bytes x3 a3 l) := hy3; have HC3 : Hid (UnC w s t (.slice a n cap) (.slice b m cap2) a b x3) := UnC.keep HC2.out hb3; clear hb3 ho3 hy3)
        | ((with_reducible refine guard_load 25 ?_); refine wpList_load_st rfl _ rfl (UnC.snd HC3.out) rfl ?_)
        | (go_at_call 8; refine (scopy_any t b m cap2 _ HN.out.2 (UnC.l2 HC3.out) hm.2).mono ?_; rintro _ x4 ⟨v4, rfl, ho4, hb4⟩; obtain ⟨a4, c4, hv4, _, _, hl4, _⟩ := ho4.shape; simp only [HN.out.2] at hv4; subst hv4; have HL4 : Hid (Lns x4 a4 t.lines) := hl4; have HY4 : Hid (Bytes x4 a3 l) := HY3.out.keep hb4; have HC4 : Hid (UnC w s t (.slice a n cap) (.slice b m cap2) a b x4) := UnC.keep HC3.out hb4; clear hb4 ho4 hl4)
        | (go_at_call 7; refine (cenc_any t a4 m c4 _ HN.out.2 HL4.out hlm.2).mono ?_; unfold CencPost; rw [HF.out]; rintro _ x5 ⟨v5, rfl, ho5, hb5⟩; obtain ⟨a5, c5, hv5, hc5, _, hy5, _⟩ := ho5.shape; subst hv5; have HY5 : Hid (Bytes x5 a3 l) := HY4.out.keep hb5; have HZ5 : Hid (Bytes x5 a5 r) := hy5; have HC5 : Hid (UnC w s t (.slice a n cap) (.slice b m cap2) a b x5) := UnC.keep HC4.out hb5; clear hb5 ho5 hy5))
      go_ret
      exact ⟨rfl, HC5.out.bel⟩
    | true =>
      obtain ⟨r, hrE⟩ : ∃ r : List Nat, ones (sfs t) = r := ⟨_, rfl⟩
      have HF : Hid (cenc t = (r, 0)) := by rw [← hrE]; exact if_pos hv2
      have hdt := cdec_back hv2
      rw [hlE] at hds
      rw [hrE] at hdt
      have hiff : l = r ↔ s = t := by
        constructor
        · intro h
          rw [h, hdt] at hds
          exact (Prod.mk.inj hds).1.symm
        · intro h
          rw [← hlE, ← hrE, h]
      have HLL : Hid (l.length ≤ maxLen ∧ r.length ≤ maxLen) := by
        have h1 := cenc_len s
        have h2 := cenc_len t
        rw [HE.out] at h1
        rw [HF.out] at h2
        simp only at h1 h2
        show _ ∧ _
        unfold maxLen
        omega
      clear hv hlE hv2 hrE hds hdt
      go_enter Try.func5, Try.ntmps5
      go_wp2_with (first
        | (go_at_call 6; refine (head09_any _).mono ?_; rintro _ x1 ⟨rfl, hb1⟩; have HC1 : Hid (UnC w s t (.slice a n cap) (.slice b m cap2) a b x1) := UnC.keep HC0.out hb1; clear hb1)
        | ((with_reducible refine guard_load 25 ?_); clear T1; refine wpList_load_st rfl _ rfl (UnC.fst HC1.out) rfl ?_)
        | (go_at_call 8; clear T2; refine (scopy_any s a n cap _ HN.out.1 (UnC.l1 HC1.out) hm.1).mono ?_; rintro _ x2 ⟨v2, rfl, ho2, hb2⟩; obtain ⟨a2, c2, hv2, _, _, hl2, _⟩ := ho2.shape; simp only [HN.out.1] at hv2; subst hv2; have HL2 : Hid (Lns x2 a2 s.lines) := hl2; have HC2 : Hid (UnC w s t (.slice a n cap) (.slice b m cap2) a b x2) := UnC.keep HC1.out hb2; clear hb2 ho2 hl2)
        | (go_at_call 7; clear T3; refine (cenc_any s a2 n c2 _ HN.out.1 HL2.out hlm.1).mono ?_; unfold CencPost; rw [HE.out]; rintro _ x3 ⟨v3, rfl, ho3, hb3⟩; obtain ⟨a3, c3, hv3, hc3, _, hy3, _⟩ := ho3.shape; subst hv3; have HY3 : Hid (Bytes x3 a3 l) := hy3; have HC3 : Hid (UnC w s t (.slice a n cap) (.slice b m cap2) a b x3) := UnC.keep HC2.out hb3; clear hb3 ho3 hy3)
        | ((with_reducible refine guard_load 25 ?_); refine wpList_load_st rfl _ rfl (UnC.snd HC3.out) rfl ?_)
        | (go_at_call 8; refine (scopy_any t b m cap2 _ HN.out.2 (UnC.l2 HC3.out) hm.2).mono ?_; rintro _ x4 ⟨v4, rfl, ho4, hb4⟩; obtain ⟨a4, c4, hv4, _, _, hl4, _⟩ := ho4.shape; simp only [HN.out.2] at hv4; subst hv4; have HL4 : Hid (Lns x4 a4 t.lines) := hl4; have HY4 : Hid (Bytes x4 a3 l) := HY3.out.keep hb4; have HC4 : Hid (UnC w s t (.slice a n cap) (.slice b m cap2) a b x4) := UnC.keep HC3.out hb4; clear hb4 ho4 hl4)
        | (go_at_call 7; refine (cenc_any t a4 m c4 _ HN.out.2 HL4.out hlm.2).mono ?_; unfold CencPost; rw [HF.out]; rintro _ x5 ⟨v5, rfl, ho5, hb5⟩; obtain ⟨a5, c5, hv5, hc5, _, hy5, _⟩ := ho5.shape; subst hv5; have HY5 : Hid (Bytes x5 a3 l) := HY4.out.keep hb5; have HZ5 : Hid (Bytes x5 a5 r) := hy5; have HC5 : Hid (UnC w s t (.slice a n cap) (.slice b m cap2) a b x5) := UnC.keep HC4.out hb5; clear hb5 ho5 hy5))
      have HEE0 : UnC w s t (.slice a n cap) (.slice b m cap2) a b x5 ∧ Bytes x5 a3 l ∧ Bytes x5 a5 r := ⟨HC5.out, HY5.out, HZ5.out⟩
      obtain ⟨E, hE⟩ : ∃ E : World → Prop, (fun x => UnC w s t (.slice a n cap) (.slice b m cap2) a b x ∧ Bytes x a3 l ∧ Bytes x a5 r) = E := ⟨_, rfl⟩
      have HK : ∀ x y, E x → Below x.heap.size x y → E y := fun x y h h2 => by rw [← hE] at h ⊢; exact ⟨UnC.keep h.1 h2, h.2.1.keep h2, h.2.2.keep h2⟩
      have HEE : Hid (E x5.drew) := HK x5 _ (by rw [← hE]; exact HEE0) (Below.refl _ _).drew
      have RS1 : Hid (∀ w2, E w2 → StAt w2 w.heap.size s (.slice a n cap)) := fun w2 h => by rw [← hE] at h; exact h.1.fst
      have RS2 : Hid (∀ w2, E w2 → StAt w2 (w.heap.size + 1) t (.slice b m cap2)) := fun w2 h => by rw [← hE] at h; exact h.1.snd
      have HBel : Hid (∀ w2, E w2 → Below w.heap.size w w2) := fun w2 h => by rw [← hE] at h; exact h.1.bel
      by_cases hst : s = t
      · have hlr : l = r := hiff.2 hst
        have C1 : Hid (∀ w2, E w2 → Calls Try.prog 13 #[.slice a3 l.length c3, .slice a5 r.length c5] w2 fun e w' => e = .returned (.bool true) ∧ E w') := fun w2 h => by
          have h' := h
          rw [← hE] at h'
          exact (same_yes l l.length r.length a3 a5 c3 c5 w2 rfl (by rw [hlr]) h'.2.1 (by have := h'.2.2; rw [← hlr] at this; exact this) HLL.out.1).mono fun e w' ⟨h1, h2⟩ => ⟨h1, HK _ _ h h2⟩
        have C2 : Hid (∀ w2, E w2 → Calls Try.prog 11 #[.agg (stA s (.slice a n cap)), .agg (stA t (.slice b m cap2))] w2 fun e w' => e = .returned (.bool true) ∧ E w') := fun w2 h => by
          have h' := h
          rw [← hE] at h'
          have hnm : m = n := by have := HN.out; rw [← hst] at this; omega
          have hl2 := h'.1.l2
          rw [← hst] at hl2 ⊢
          rw [hnm]
          exact (ssame_yes s a b n cap cap2 w2 HN.out.1 h'.1.l1 hl2 hlm.1).mono fun e w' ⟨h1, h2⟩ => ⟨h1, HK _ _ h h2⟩
        clear hE HEE0 HK hiff hst hlr
        refine wp_region_quiet (C := E) (by kernel_rfl) (by kernel_rfl) HEE.out ?_
        simp only [List.toList_toArray]
        repeat (any_goals (first
          | go_big_quiet_skip
          | (go_big_quiet_want
             first
             | (refine quiet_val (v := .agg (stA s (.slice a n cap))) (fun w2 hw2 => exec_load_st (.tmp 2) rfl rfl (RS1.out w2 hw2)) ?_
                go_big_quiet_on; simp only [Act.put, List.setIfInBounds_toArray, List.set_cons_zero, List.set_cons_succ])
             | (refine quiet_val (v := .agg (stA t (.slice b m cap2))) (fun w2 hw2 => exec_load_st (.tmp 3) rfl rfl (RS2.out w2 hw2)) ?_
                go_big_quiet_on; simp only [Act.put, List.setIfInBounds_toArray, List.set_cons_zero, List.set_cons_succ])
             | (refine quiet_val (v := ?_) (fun w2 hw2 => ?_) ?_
                rotate_left
                · (go_simp; with_reducible rfl)
                go_big_quiet_on; simp only [Act.put, List.setIfInBounds_toArray, List.set_cons_zero, List.set_cons_succ])
             | (refine quiet_call (v := ?_) (f := ?_) (args := ?_) (fun w2 hw2 => ?_) (fun w2 hw2 => ?_) ?_
                rotate_left 3
                · (go_simp; refine ⟨?_, ?_⟩ <;> with_reducible rfl)
                first
                | (· (go_at_call 13; exact C1.out _ hw2)
                   (go_big_quiet_on; simp only [Act.put, List.setIfInBounds_toArray, List.set_cons_zero, List.set_cons_succ]))
                | (· (go_at_call 11; exact C2.out _ hw2)
                   (go_big_quiet_on; simp only [Act.put, List.setIfInBounds_toArray, List.set_cons_zero, List.set_cons_succ]))))))
        all_goals
          refine wpQuiet_nil ?_
          intro w3 hw3
          go_wp2
          go_ret
          exact ⟨rfl, HBel.out _ hw3⟩
      · have hlr : l ≠ r := fun h => hst (hiff.1 h)
        have C1 : Hid (∀ w2, E w2 → Calls Try.prog 13 #[.slice a3 l.length c3, .slice a5 r.length c5] w2 fun e w' => e = .returned (.bool false) ∧ E w') := fun w2 h => by
          have h' := h
          rw [← hE] at h'
          exact (same_no l r l.length r.length a3 a5 c3 c5 w2 hlr rfl rfl h'.2.1 h'.2.2 HLL.out.1 HLL.out.2).mono fun e w' ⟨h1, h2⟩ => ⟨h1, HK _ _ h h2⟩
        have C2 : Hid (∀ w2, E w2 → Calls Try.prog 11 #[.agg (stA s (.slice a n cap)), .agg (stA t (.slice b m cap2))] w2 fun e w' => e = .returned (.bool false) ∧ E w') := fun w2 h => by
          have h' := h
          rw [← hE] at h'
          exact (ssame_no s t a b n m cap cap2 w2 hst HN.out.1 HN.out.2 h'.1.l1 h'.1.l2 hlm.1).mono fun e w' ⟨h1, h2⟩ => ⟨h1, HK _ _ h h2⟩
        clear hE HEE0 HK hiff hst hlr
        refine wp_region_quiet (C := E) (by kernel_rfl) (by kernel_rfl) HEE.out ?_
        simp only [List.toList_toArray]
        repeat (any_goals (first
          | go_big_quiet_skip
          | (go_big_quiet_want
             first
             | (refine quiet_val (v := .agg (stA s (.slice a n cap))) (fun w2 hw2 => exec_load_st (.tmp 2) rfl rfl (RS1.out w2 hw2)) ?_
                go_big_quiet_on; simp only [Act.put, List.setIfInBounds_toArray, List.set_cons_zero, List.set_cons_succ])
             | (refine quiet_val (v := .agg (stA t (.slice b m cap2))) (fun w2 hw2 => exec_load_st (.tmp 3) rfl rfl (RS2.out w2 hw2)) ?_
                go_big_quiet_on; simp only [Act.put, List.setIfInBounds_toArray, List.set_cons_zero, List.set_cons_succ])
             | (refine quiet_val (v := ?_) (fun w2 hw2 => ?_) ?_
                rotate_left
                · (go_simp; with_reducible rfl)
                go_big_quiet_on; simp only [Act.put, List.setIfInBounds_toArray, List.set_cons_zero, List.set_cons_succ])
             | (refine quiet_call (v := ?_) (f := ?_) (args := ?_) (fun w2 hw2 => ?_) (fun w2 hw2 => ?_) ?_
                rotate_left 3
                · (go_simp; refine ⟨?_, ?_⟩ <;> with_reducible rfl)
                first
                | (· (go_at_call 13; exact C1.out _ hw2)
                   (go_big_quiet_on; simp only [Act.put, List.setIfInBounds_toArray, List.set_cons_zero, List.set_cons_succ]))
                | (· (go_at_call 11; exact C2.out _ hw2)
                   (go_big_quiet_on; simp only [Act.put, List.setIfInBounds_toArray, List.set_cons_zero, List.set_cons_succ]))))))
        all_goals
          refine wpQuiet_nil ?_
          intro w3 hw3
          go_wp2
          go_ret
          exact ⟨rfl, HBel.out _ hw3⟩
theorem own : ownKnob Try.prog.godebug = none := by kernel_rfl
theorem laidOut : laidOutB Try.prog = true := by kernel_rfl
set_option maxRecDepth 100000 in
theorem contract (H : Type) (enc : TypeId × Value → H) (W : World) (base : Nat) (args : Array Value) (ds gs : List (DataW H)) (before : List MemPlace)
    (hval : ∀ (j : Nat) t v, Try.f5.params[j]? = some t → args[j]? = some v → Value.okWide Try.prog W .any base t v)
    (hW : DataW.Whole enc Try.prog Try.f5.params.toList Rows.canonUnlikeSpec.vars false W args.toList ds gs before)
    (hsz : (DataW.weightsEach Try.prog (Try.f5.params.toList ++ Rows.canonUnlikeSpec.plain.varTypes Try.prog) (ds ++ gs)).all (· ≤ reachBytes) = true) :
    Calls Try.prog 5 args W fun e W' => ∃ v, e = .returned v ∧ Rows.canonUnlikeSpec.post enc Try.prog Try.f5 false true false false W args v W' := by
  have hW' := hW
  obtain ⟨p, q, hA0, hV, rfl, hfz, hnd⟩ := hW
  have hA : DataW.TrodAll enc Try.prog W 0 (fun _ => true) true Try.f5.params.toList args.toList ds p := hA0
  rw [Try.params5] at hA hval hsz
  obtain ⟨v0, vs0, d0, ds0, p0, q0, hargs, rfl, rfl, h0, r0⟩ := trodAll_cons hA
  obtain ⟨v1, vs1, d1, ds1, p1, q1, rfl, rfl, rfl, h1, r1⟩ := trodAll_cons r0
  obtain ⟨rfl, rfl, rfl⟩ := trodAll_nil r1
  obtain rfl : args = #[v0, v1] := by cases args; simp_all
  obtain ⟨rfl, rfl⟩ := trodVars_none hV
  have k0 := h0
  have lt0 : ∀ x ∈ p0, x.block < W.heap.size := by obtain ⟨m, hm⟩ := k0; exact DataW.trod_lt m _ _ _ hm
  obtain ⟨st0, a0, n0, cap0, rfl, hlen0, w0, c0, m0⟩ := open_state (hval 0 25 v0 rfl rfl) h0 hsz (j := 0) rfl rfl
  have k1 := h1
  have lt1 : ∀ x ∈ p1, x.block < W.heap.size := by obtain ⟨m, hm⟩ := k1; exact DataW.trod_lt m _ _ _ hm
  obtain ⟨st1, a1, n1, cap1, rfl, hlen1, w1, c1, m1⟩ := open_state (hval 1 25 v1 rfl rfl) h1 hsz (j := 1) rfl rfl
  clear hA0
  refine (walk st0 a0 n0 cap0 st1 a1 n1 cap1 W hlen0 w0 c0 m0 hlen1 w1 c1 m1).mono fun e W' ⟨he, bel⟩ => ?_
  subst he
  exact ⟨_, rfl, _, _, _, [], _, [], hW', trodAll_mk1 (shut_bool Try.underlying4 _), (trodAll_cons_mk (Below.trod laidOut (by kernel_rfl) (of_decide_eq_true (by kernel_rfl)) k0 bel lt0) (trodAll_cons_mk (Below.trod laidOut (by kernel_rfl) (of_decide_eq_true (by kernel_rfl)) k1 bel lt1) trodAll_mk0)), rfl, bel.frame _, fun h => by cases h⟩
set_option maxRecDepth 100000 in
theorem lifted (os : Os) (started : os.Started) (H : Type) (enc : TypeId × Value → H) :
    ReturnsInHanded {} Try.checked os 5 .any (Rows.canonUnlikeSpec.pre6 enc Try.prog Try.f5 Rows.canonUnlikeRow.domain false) (Rows.canonUnlikeSpec.post enc Try.prog Try.f5 false true false false) := by
  refine returnsInHanded_of_change_sized (C := Try.checked) own started (by kernel_rfl) Try.func5
    (ChangeSpec.witness6 (enc := enc) (C := Try.checked) false ⟨#[], #[.agg #[.int .i64 0, .int .i64 0, .int .i64 0, .int .i64 0, .int .i64 0, .slice none 0 0, .int .i64 0, .int .i64 0, .int .i64 0, .int .i64 0, .int .i64 0, .string ⟨#[]⟩], .agg #[.int .i64 0, .int .i64 0, .int .i64 0, .int .i64 0, .int .i64 0, .slice none 0 0, .int .i64 0, .int .i64 0, .int .i64 0, .int .i64 0, .int .i64 0, .string ⟨#[]⟩]], []⟩ 8 (by kernel_rfl) (by kernel_rfl) (by kernel_rfl) (by kernel_rfl)) ?_
  intro W base args ds gs before hval hW _ hsz _
  exact contract H enc W base args ds gs before hval hW hsz
theorem over : Rows.canonUnlikeRow.holds Try.pinned (OpenSpec.ofChange Rows.canonUnlikeSpec) :=
  OpenClaim.holds_of_wide 5 Try.f5 rfl rfl rfl rfl rfl rfl rfl ⟨rfl, rfl, rfl, rfl, rfl⟩ rfl rfl rfl rfl rfl (by kernel_rfl) Try.func5 (by kernel_rfl)
    (of_decide_eq_true (by kernel_rfl)) (by unfold Func.isWrapper; first | (rw [if_pos (by decide +kernel)]; kernel_rfl) | (rw [if_neg (by decide +kernel)]; exact ⟨rfl, rfl⟩))
    (fun os started H enc _ => lifted os started H enc)
theorem proved : Rows.CanonUnlikeSaid := over
end Go.Proofs.Ytfdaefhamoeaiaa.canonUnlike
