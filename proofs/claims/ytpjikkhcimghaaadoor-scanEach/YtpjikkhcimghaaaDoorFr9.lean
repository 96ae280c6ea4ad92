/- daybookref11: Decode. -/
import Derived.Test.YtpjikkhcimghaaaDoorFr8
import Derived.Test.YtpjikkhcimghaaaDoorCopy
namespace Go.Proofs.YtpjikkhcimghaaaDoor
open Go.ChangeShapes Go.WideShapes Go.ChangeAt Go.RowKit
set_option linter.unusedVariables false
theorem FrmAt.drewN {w : World} {k : Nat} {kind seq : Int} {bv : Value} (h : FrmAt w k kind seq bv) (m : Nat) : FrmAt (w.drewN m) k kind seq bv := by
  induction m with
  | zero => exact h
  | succ m ih => exact ih
theorem own_drewN {w : World} {base : Nat} {v : Value} {l : List Nat} (h : Own w base v l) (m : Nat) : Own (w.drewN m) base v l := by
  induction m with
  | zero => exact h
  | succ m ih => exact ih
theorem own_apart {w w' : World} {base j : Nat} {v : Value} {l : List Nat} (h : Own w base v l) (hh : ∀ k, k ≠ j → w'.heap[k]? = w.heap[k]?) (hj : j < base) : Own w' j v l := by
  refine ⟨h.1, h.2.1, ?_⟩
  rcases h.2.2 with h2 | ⟨g, cap, cur, h3, h4, h5, h6⟩
  · exact .inl h2
  · exact .inr ⟨g, cap, cur, h3, by omega, (hh g (by omega)).trans h5, h6⟩
theorem closedBody (l : List Nat) (p : Nat) (h : p + 20 ≤ l.length) : closedB ((l.take (p + 20)).drop 16) = decide ((l.drop (p + 16)).take 4 = Crcm.four (Crcm.sum ((l.drop 16).take p))) := by
  have h1 : ((l.take (p + 20)).drop 16).length = p + 4 := by rw [List.length_drop, List.length_take]; omega
  unfold closedB
  rw [h1, show p + 4 - 4 = p from by omega, List.drop_drop, List.drop_take, List.drop_take, List.take_take, show min p (p + 20 - 16) = p from by omega, show p + 20 - (16 + p) = 4 from by omega, show 16 + p = p + 16 from by omega, decide_eq_decide]
  exact ⟨fun x => x.2, fun x => ⟨by omega, x⟩⟩
set_option maxRecDepth 20000 in
set_option maxHeartbeats 1000000 in
theorem rfdec_any (l : List Nat) (n : Nat) (a : Option Addr) (cap : Nat) (w : World) (hn : l.length = n) (hb : Bytes w a l) (hl : l.length ≤ 281474976710656) (hcap : l.length ≤ cap) :
    Calls Tryd.prog 12 #[.slice a n cap] w fun r w' => ∃ v, r = .returned (DV l v) ∧ Own w' w.heap.size v (decB l) ∧ Below w.heap.size w w' := by
  have HF0 : Hid (FrmAt (w.alloc (.cells #[.int .i64 0, .int .i64 0, .slice none 0 0] 32)) w.heap.size 0 0 (.slice none 0 0)) := FrmAt.new w 0 0 (.slice none 0 0)
  have HB0 : Hid (Below w.heap.size w (w.alloc (.cells #[.int .i64 0, .int .i64 0, .slice none 0 0] 32))) := (Below.refl _ _).alloc (Nat.le_refl _) _
  have HPK : Hid (∀ w1, Below w.heap.size w w1 → Calls Tryd.prog 18 #[.slice a n cap] w1 fun e w' => e = .returned (PV l) ∧ Below w1.heap.size w1 w') := fun w1 hb1 => rpeek_any l n a cap w1 hn (hb.keep hb1) hl hcap
  by_cases hp : peekE l = 0
  · obtain ⟨h16, h1, h2, h3, h4, h5, h6⟩ := peekE_zero hp
    have hne : l ≠ [] := by intro h; subst h; simp at h16
    obtain ⟨b, off, rfl, hlt, _⟩ := hb.nonempty hne
    have HPV : Hid (PV l = _) := pv_good l hp
    have HB : Hid (Bytes w (some ⟨b, off, none⟩) l) := hb
    obtain ⟨p, hpp⟩ : ∃ p, pn l = p := ⟨_, rfl⟩
    obtain ⟨s, hss⟩ : ∃ s, ps l = s := ⟨_, rfl⟩
    obtain ⟨k, hkk⟩ : ∃ k, pk l = k := ⟨_, rfl⟩
    rw [hpp, hss, hkk] at HPV
    rw [hpp] at h3
    by_cases hsz : l.length < pn l + 20
    · have HD : Hid (_ ∧ _) := dv_bad l 60 (by unfold decE; rw [if_neg (by omega), if_pos hsz]) (by decide)
      rw [hpp] at hsz
      rw [hn] at hsz
      have hszI : (n : Int) < (p : Int) + 20 := by omega
      clear hb hcap hl hn h1 h2 h4 h5 h6 hne hp hsz hpp hss hkk h16
      go_enter Tryd.func12, Tryd.ntmps12
      go_wp2_with (first
        | (go_at_call 18; refine (HPK.out _ HB0.out).mono ?_; rw [HPV.out]; rintro r w1 ⟨rfl, hb1⟩; have HF1 : Hid (FrmAt w1 w.heap.size 0 0 (.slice none 0 0)) := HF0.out.keep hb1; have HB1 : Hid (Below w.heap.size w w1) := HB0.out.trans (hb1.mono (by simp)); clear hb1)
        | ((with_reducible refine frm_store 32 ?_); refine wpList_store_frm rfl _ _ rfl rfl HF1.out rfl rfl rfl ?_; intro w9 hf9 ho9 hh9 hs9; have HF9 : Hid (FrmAt w9 w.heap.size _ _ _) := hf9; have HB9 : Hid (Below w.heap.size w w9) := below_one HB1.out ho9 hh9 hs9 (Nat.le_refl _); clear hf9 ho9 hh9 hs9))
      refine bodyPost_ret (results_frm3 rfl _ _ w.heap.size rfl HF9.out) rfl ⟨.slice none 0 0, by rw [HD.out.1]; rfl, by rw [HD.out.2]; exact own_none _ _, HB9.out⟩
    · obtain ⟨q, hq⟩ : ∃ q, p + 20 = q := ⟨_, rfl⟩
      have hlq : q ≤ n := by rw [← hn]; omega
      have HL4 : Hid (((l.drop (p + 16)).take 4).length = 4) := by show _ = _; rw [List.length_take, List.length_drop]; omega
      have HBD : Hid (((l.drop 16).take p).length = p) := by show _ = _; rw [List.length_take, List.length_drop]; omega
      have HBB : Hid (∀ w1, Below w.heap.size w w1 → Bytes w1 (some ⟨b, off + 16, none⟩) ((l.drop 16).take p)) := fun w1 hb1 => ((hb.keep hb1).drop 16).take p
      have HSB : Hid (Crcm.sum ((l.drop 16).take p) < 4294967296) := Crcm.sum_lt _ (HBB.out w (Below.refl _ _)).mem
      have hpm : p ≤ maxLen := by unfold maxLen; omega
      have HCP : Hid (∀ w1, Below w.heap.size w w1 → Calls Tryd.prog 7 #[.slice (some ⟨b, off + 16, none⟩) p (cap - 16)] w1 fun e w' => ∃ v, e = .returned v ∧ Own w' w1.heap.size v ((l.drop 16).take p) ∧ Below w1.heap.size w1 w') := fun w1 hb1 => by
        have := copy_any ((l.drop 16).take p) (some ⟨b, off + 16, none⟩) (cap - 16) w1 (HBB.out w1 hb1) (by rw [HBD.out]; omega)
        rw [HBD.out] at this
        exact this
      have HCB : Hid (closedB ((l.take (p + 20)).drop 16) = decide ((l.drop (p + 16)).take 4 = Crcm.four (Crcm.sum ((l.drop 16).take p)))) := closedBody l p (by omega)
      rw [show (p : Int) + 20 = (q : Int) from by omega] at HPV
      have hqI : ¬ (n : Int) < (q : Int) := by omega
      have hqc : (q : Int) ≤ (cap : Int) := by omega
      have hq1 : (20 : Int) ≤ (q : Int) := by omega
      obtain ⟨t, htE⟩ : ∃ t, p + 16 = t := ⟨_, rfl⟩
      have hqt : (q : Int) - 4 = (t : Int) := by omega
      have ht16 : (16 : Int) ≤ (t : Int) := by omega
      have hwt : IntKind.i64.wrap (t : Int) = (t : Int) := by rw [wrap_i64]; omega
      have hwq : IntKind.i64.wrap ((q : Int) - 4) = (t : Int) := by rw [wrap_i64]; omega
      have ht0 : (0 : Int) ≤ (t : Int) := by omega
      have htq2 : t ≤ q := by omega
      have htq : (t : Int) ≤ (q : Int) := by omega
      have htc : (t : Int) ≤ (cap : Int) := by omega
      have htp : t - 16 = p := by omega
      have hqt4 : q - t = 4 := by omega
      have hqn : ¬ cap = 16 := by omega
      have htn : ¬ cap = t := by omega
      have hnI : (n : Int) ≤ 281474976710656 := by omega
      have hnc : n ≤ cap := by omega
      have hqle : (q : Int) ≤ 16404 := by omega
      rw [htE] at HL4 HCB
      by_cases hcl : closedB ((l.take (pn l + 20)).drop 16) = false
      · have HD : Hid (_ ∧ _) := dv_bad l 62 (by unfold decE; rw [if_neg (by omega), if_neg hsz, if_pos hcl]) (by decide)
        have HCV : Hid (decide ((l.drop t).take 4 = Crcm.four (Crcm.sum ((l.drop 16).take p))) = false) := by show _ = _; rw [← HCB.out, ← hpp]; exact hcl
        clear hb hcap hl hn h1 h2 h4 h5 h6 hne hp hsz hpp hss hkk h16 hcl htE hq HCB
        go_enter Tryd.func12, Tryd.ntmps12
        go_wp2_with (first
          | (go_at_call 18; refine (HPK.out _ HB0.out).mono ?_; rw [HPV.out]; rintro r w1 ⟨rfl, hb1⟩; have HF1 : Hid (FrmAt w1 w.heap.size 0 0 (.slice none 0 0)) := HF0.out.keep hb1; have HB1 : Hid (Below w.heap.size w w1) := HB0.out.trans (hb1.mono (by simp)); clear hb1)
          | (go_at_call 7; refine (HCP.out _ HB1.out).mono ?_; rintro r w2 ⟨v2, rfl, ho2, hb2⟩; obtain ⟨a2, c2, hv2, hc2, _, hy2, hs2⟩ := ho2.shape; rw [HBD.out] at hv2 hc2; subst hv2; have HF2 : Hid (FrmAt w2 w.heap.size 0 0 (.slice none 0 0)) := HF1.out.keep hb2; have HB2 : Hid (Below w.heap.size w w2) := below_next HB1.out hb2; have HY2 : Hid (Bytes w2 a2 ((l.drop 16).take p)) := hy2; have HO2 : Hid (Own w2 w1.heap.size (.slice a2 p c2) ((l.drop 16).take p)) := ho2; have HS1 : Hid (w.heap.size < w1.heap.size) := lt_of_heap HF1.out; clear ho2 hb2 hy2 hs2))
        go_region_held3 (fun w' => True) (trivial) (first
          | (go_at_call 20; refine (rsum_any ((l.drop 16).take p) p _ _ _ HBD.out (HY2.out.drewN 1) (by rw [HBD.out]; exact hpm)).mono ?_; rintro r w3 ⟨rfl, rfl⟩)
          | (go_at_call 19; refine (rfour_any _ _ HSB.out).mono ?_; rintro r w4 ⟨g4, rfl, hy4, hb4⟩; have HB4 : Hid (Below w.heap.size w w4) := HB2.out.trans (((below_drewN (Below.refl w2.heap.size w2) 1).trans hb4).mono HB2.out.size); have HF4 : Hid (FrmAt w4 w.heap.size 0 0 (.slice none 0 0)) := HF2.out.keep ((below_drewN (Below.refl w2.heap.size w2) 1).trans hb4); have HO4 : Hid (Own w4 w1.heap.size (.slice a2 p c2) ((l.drop 16).take p)) := ⟨HO2.out.1, own_below HO2.out.2 ((below_drewN (Below.refl w2.heap.size w2) 1).trans hb4)⟩; have HY4 : Hid (Bytes w4 (some ⟨g4, 0, none⟩) (Crcm.four (Crcm.sum ((l.drop 16).take p)))) := hy4; clear hb4 hy4)
          | (go_at_call 15; refine (same_at ((l.drop t).take 4) (Crcm.four (Crcm.sum ((l.drop 16).take p))) 4 4 _ _ _ _ _ HL4.out rfl (bytes_sub (HB.out.keep HB4.out) t 4) HY4.out (by rw [HL4.out]; unfold maxLen; omega) (by show 4 ≤ _; unfold maxLen; omega)).mono ?_; rw [HCV.out]; rintro r w5 ⟨rfl, q5, rfl⟩))
        have HF5 : Hid (FrmAt (w4.drewN q5) w.heap.size 0 0 (.slice none 0 0)) := HF4.out.drewN q5
        have HB5 : Hid (Below w.heap.size w (w4.drewN q5)) := below_drewN HB4.out q5
        go_wp2_with (((with_reducible refine frm_store 32 ?_); refine wpList_store_frm rfl _ _ rfl rfl HF5.out rfl rfl rfl ?_; intro w9 hf9 ho9 hh9 hs9; have HF9 : Hid (FrmAt w9 w.heap.size _ _ _) := hf9; have HB9 : Hid (Below w.heap.size w w9) := below_one HB5.out ho9 hh9 hs9 (Nat.le_refl _); clear hf9 ho9 hh9 hs9))
        refine bodyPost_ret (results_frm3 rfl _ _ w.heap.size rfl HF9.out) rfl ⟨.slice none 0 0, by rw [HD.out.1]; rfl, by rw [HD.out.2]; exact own_none _ _, HB9.out⟩
      · have HD : Hid (∀ v, _ ∧ _) := fun v => dv_good l v (by unfold decE; rw [if_neg (by omega), if_neg hsz, if_neg hcl])
        rw [hpp, hss, hkk] at HD
        have HCV : Hid (decide ((l.drop t).take 4 = Crcm.four (Crcm.sum ((l.drop 16).take p))) = true) := by show _ = _; rw [← HCB.out, ← hpp]; simpa using hcl
        have HQZ : Hid ((p : Int) + 20 = (q : Int)) := by show _ = _; omega
        clear hb hcap hl hn h1 h2 h4 h5 h6 hne hp hsz hpp hss hkk h16 hcl htE hq HCB
        go_enter Tryd.func12, Tryd.ntmps12
        go_wp2_with (first
          | (go_at_call 18; refine (HPK.out _ HB0.out).mono ?_; rw [HPV.out]; rintro r w1 ⟨rfl, hb1⟩; have HF1 : Hid (FrmAt w1 w.heap.size 0 0 (.slice none 0 0)) := HF0.out.keep hb1; have HB1 : Hid (Below w.heap.size w w1) := HB0.out.trans (hb1.mono (by simp)); clear hb1)
          | (go_at_call 7; refine (HCP.out _ HB1.out).mono ?_; rintro r w2 ⟨v2, rfl, ho2, hb2⟩; obtain ⟨a2, c2, hv2, hc2, _, hy2, hs2⟩ := ho2.shape; rw [HBD.out] at hv2 hc2; subst hv2; have HF2 : Hid (FrmAt w2 w.heap.size 0 0 (.slice none 0 0)) := HF1.out.keep hb2; have HB2 : Hid (Below w.heap.size w w2) := below_next HB1.out hb2; have HY2 : Hid (Bytes w2 a2 ((l.drop 16).take p)) := hy2; have HO2 : Hid (Own w2 w1.heap.size (.slice a2 p c2) ((l.drop 16).take p)) := ho2; have HS1 : Hid (w.heap.size < w1.heap.size) := lt_of_heap HF1.out; clear ho2 hb2 hy2 hs2))
        go_region_held3 (fun w' => True) (trivial) (first
          | (go_at_call 20; refine (rsum_any ((l.drop 16).take p) p _ _ _ HBD.out (HY2.out.drewN 1) (by rw [HBD.out]; exact hpm)).mono ?_; rintro r w3 ⟨rfl, rfl⟩)
          | (go_at_call 19; refine (rfour_any _ _ HSB.out).mono ?_; rintro r w4 ⟨g4, rfl, hy4, hb4⟩; have HB4 : Hid (Below w.heap.size w w4) := HB2.out.trans (((below_drewN (Below.refl w2.heap.size w2) 1).trans hb4).mono HB2.out.size); have HF4 : Hid (FrmAt w4 w.heap.size 0 0 (.slice none 0 0)) := HF2.out.keep ((below_drewN (Below.refl w2.heap.size w2) 1).trans hb4); have HO4 : Hid (Own w4 w1.heap.size (.slice a2 p c2) ((l.drop 16).take p)) := ⟨HO2.out.1, own_below HO2.out.2 ((below_drewN (Below.refl w2.heap.size w2) 1).trans hb4)⟩; have HY4 : Hid (Bytes w4 (some ⟨g4, 0, none⟩) (Crcm.four (Crcm.sum ((l.drop 16).take p)))) := hy4; clear hb4 hy4)
          | (go_at_call 15; refine (same_at ((l.drop t).take 4) (Crcm.four (Crcm.sum ((l.drop 16).take p))) 4 4 _ _ _ _ _ HL4.out rfl (bytes_sub (HB.out.keep HB4.out) t 4) HY4.out (by rw [HL4.out]; unfold maxLen; omega) (by show 4 ≤ _; unfold maxLen; omega)).mono ?_; rw [HCV.out]; rintro r w5 ⟨rfl, q5, rfl⟩))
        have HF5 : Hid (FrmAt (w4.drewN q5) w.heap.size 0 0 (.slice none 0 0)) := HF4.out.drewN q5
        have HB5 : Hid (Below w.heap.size w (w4.drewN q5)) := below_drewN HB4.out q5
        have HO5 : Hid (Own (w4.drewN q5) w1.heap.size (.slice a2 p c2) ((l.drop 16).take p)) := own_drewN HO4.out q5
        go_wp2_with (((with_reducible refine frm_store 32 ?_); refine wpList_store_frm rfl _ _ rfl rfl HF5.out rfl rfl rfl ?_; intro w9 hf9 ho9 hh9 hs9; have HF9 : Hid (FrmAt w9 w.heap.size _ _ _) := hf9; have HB9 : Hid (Below w.heap.size w w9) := below_one HB5.out ho9 hh9 hs9 (Nat.le_refl _); have HO9 : Hid (Own w9 w.heap.size (.slice a2 p c2) ((l.drop 16).take p)) := own_apart HO5.out hh9 HS1.out; clear hf9 ho9 hh9 hs9))
        refine bodyPost_ret (results_frm3 rfl _ _ w.heap.size rfl HF9.out) rfl ⟨.slice a2 p c2, by rw [(HD.out _).1, HQZ.out]; rfl, by rw [(HD.out (.slice none 0 0)).2]; exact HO9.out, HB9.out⟩
  · obtain ⟨e, he⟩ : ∃ e, peekE l = e := ⟨_, rfl⟩
    have HPV : Hid (PV l = _) := pv_bad l e he (by omega)
    have HD : Hid (_ ∧ _) := dv_bad l e (by unfold decE; rw [if_pos hp, he]) (by omega)
    have heI : ((e : Int) != 0) = true := by simp; omega
    clear hb hcap hl hn hp he
    go_enter Tryd.func12, Tryd.ntmps12
    go_wp2_with (first
      | (go_at_call 18; refine (HPK.out _ HB0.out).mono ?_; rw [HPV.out]; rintro r w1 ⟨rfl, hb1⟩; have HF1 : Hid (FrmAt w1 w.heap.size 0 0 (.slice none 0 0)) := HF0.out.keep hb1; have HB1 : Hid (Below w.heap.size w w1) := HB0.out.trans (hb1.mono (by simp)); clear hb1)
      | ((with_reducible refine frm_store 32 ?_); refine wpList_store_frm rfl _ _ rfl rfl HF1.out rfl rfl rfl ?_; intro w9 hf9 ho9 hh9 hs9; have HF9 : Hid (FrmAt w9 w.heap.size _ _ _) := hf9; have HB9 : Hid (Below w.heap.size w w9) := below_one HB1.out ho9 hh9 hs9 (Nat.le_refl _); clear hf9 ho9 hh9 hs9))
    refine bodyPost_ret (results_frm3 rfl _ _ w.heap.size rfl HF9.out) rfl ⟨.slice none 0 0, by rw [HD.out.1]; rfl, by rw [HD.out.2]; exact own_none _ _, HB9.out⟩
end Go.Proofs.YtpjikkhcimghaaaDoor
