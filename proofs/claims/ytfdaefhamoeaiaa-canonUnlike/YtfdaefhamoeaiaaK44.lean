/- Own texts, joined: Cnb. -/
import Derived.Test.YtfdaefhamoeaiaaK43
namespace Go.Proofs.Ytfdaefhamoeaiaa
open Go.ChangeShapes Go.WideShapes Go.ChangeAt Go.RowKit
set_option linter.unusedVariables false
/-- a line that is read is what would be written -/
theorem rdLn_form {t : List Nat} (ht : ∀ x ∈ t, x < 256) {p : Ln} (h : rdLn t = (p, true)) (hp : LnOk p) : lnT p = t := by
  obtain ⟨h1, h2, h3, h4, h5, h6, h7, h8⟩ := hp
  have hr : rdK4 0 0 0 0 t = (p, true) := h
  unfold rdK4 at hr
  by_cases e1 : (dec 0 0 t).2.2 = 0
  · rw [if_neg (by simp [e1])] at hr
    obtain ⟨_, a2, _, a4, a5⟩ := vdec_form t ht e1
    obtain ⟨u1, hu1⟩ : ∃ u, (dec 0 0 t).1 = u := ⟨_, rfl⟩
    obtain ⟨t1, ht1⟩ : ∃ r, t.drop (dec 0 0 t).2.1 = r := ⟨_, rfl⟩
    have s1 : t = enc u1 ++ t1 := by rw [← hu1, a5, ← ht1, List.take_append_drop]
    rw [hu1, ht1] at hr
    have l1 : ∀ x ∈ t1, x < 256 := fun x hx => ht x (by rw [s1]; exact List.mem_append_right _ hx)
    unfold rdK3 at hr
    by_cases e2 : (dec 0 0 t1).2.2 = 0
    · rw [if_neg (by simp [e2])] at hr
      obtain ⟨_, _, _, _, b5⟩ := vdec_form t1 l1 e2
      obtain ⟨u2, hu2⟩ : ∃ u, (dec 0 0 t1).1 = u := ⟨_, rfl⟩
      obtain ⟨t2, ht2⟩ : ∃ r, t1.drop (dec 0 0 t1).2.1 = r := ⟨_, rfl⟩
      have s2 : t1 = enc u2 ++ t2 := by rw [← hu2, b5, ← ht2, List.take_append_drop]
      rw [hu2, ht2] at hr
      have l2 : ∀ x ∈ t2, x < 256 := fun x hx => l1 x (by rw [s2]; exact List.mem_append_right _ hx)
      unfold rdK2 at hr
      by_cases e3 : (dec 0 0 t2).2.2 = 0
      · rw [if_neg (by simp [e3])] at hr
        obtain ⟨_, _, _, _, c5⟩ := vdec_form t2 l2 e3
        obtain ⟨u3, hu3⟩ : ∃ u, (dec 0 0 t2).1 = u := ⟨_, rfl⟩
        obtain ⟨t3, ht3⟩ : ∃ r, t2.drop (dec 0 0 t2).2.1 = r := ⟨_, rfl⟩
        have s3 : t2 = enc u3 ++ t3 := by rw [← hu3, c5, ← ht3, List.take_append_drop]
        rw [hu3, ht3] at hr
        have l3 : ∀ x ∈ t3, x < 256 := fun x hx => l2 x (by rw [s3]; exact List.mem_append_right _ hx)
        unfold rdK1 at hr
        by_cases e4 : (dec 0 0 t3).2.2 = 0
        · rw [if_neg (by simp [e4])] at hr
          obtain ⟨_, _, _, _, d5⟩ := vdec_form t3 l3 e4
          obtain ⟨u4, hu4⟩ : ∃ u, (dec 0 0 t3).1 = u := ⟨_, rfl⟩
          obtain ⟨t4, ht4⟩ : ∃ r, t3.drop (dec 0 0 t3).2.1 = r := ⟨_, rfl⟩
          have s4 : t3 = enc u4 ++ t4 := by rw [← hu4, d5, ← ht4, List.take_append_drop]
          rw [hu4, ht4] at hr
          unfold rdK0 at hr
          obtain ⟨q1, q2⟩ := Prod.mk.inj hr
          have ht4n : t4 = [] := by simpa using q2
          subst q1
          simp only at h1 h2 h3 h4 h5 h6 h7 h8
          have k1 := capN_invC (u := u1) rfl (by omega)
          have k2 := capN_invC (u := u2) rfl (by omega)
          have k3 := capN_invC (u := u3) rfl (by omega)
          have k4 := capN_invC (u := u4) rfl (by omega)
          unfold lnT lnL
          simp only
          rw [k1, k2, k3, k4, s1, s2, s3, s4, ht4n, List.append_nil]
        · rw [if_pos e4] at hr; cases hr
      · rw [if_pos e3] at hr; cases hr
    · rw [if_pos e2] at hr; cases hr
  · rw [if_pos e1] at hr; cases hr
theorem rdAll_form : ∀ (T : List (List Nat)), (∀ t ∈ T, ∀ x ∈ t, x < 256) → (rdAll T).2 = true → (∀ l ∈ (rdAll T).1, LnOk l) → (rdAll T).1.map lnT = T
  | [], _, _, _ => rfl
  | t :: r, ht, h, hl => by
    simp only [rdAll] at h hl ⊢
    by_cases hc : (rdLn t).2 = true ∧ (rdAll r).2 = true
    · rw [if_pos hc] at h hl ⊢
      simp only [List.map_cons]
      have h1 := rdLn_form (ht t (List.mem_cons_self ..)) (p := (rdLn t).1) (Prod.ext rfl hc.1) (hl _ (List.mem_cons_self ..))
      rw [h1, rdAll_form r (fun x hx => ht x (List.mem_cons_of_mem _ hx)) hc.2 (fun l hm => hl l (List.mem_cons_of_mem _ hm))]
    · rw [if_neg hc] at h; cases h
theorem txs_get {fs : List Fld} : ∀ (f k j : Nat), j < (txsFrom fs f k).length → (txsFrom fs f k)[j]? = some (txtF fs (12 + ((k + j : Nat) : Int))) ∧ txtF fs (12 + ((k + j : Nat) : Int)) ≠ []
  | 0, k, j, h => by simp [txsFrom] at h
  | f + 1, k, j, h => by
    simp only [txsFrom] at h ⊢
    by_cases hc : txtF fs (12 + (k : Int)) = []
    · rw [if_pos hc] at h; simp at h
    · rw [if_neg hc] at h ⊢
      cases j with
      | zero => exact ⟨rfl, hc⟩
      | succ j =>
        have := txs_get f (k + 1) j (by simpa using h)
        rw [show k + 1 + j = k + (j + 1) from by omega] at this
        simpa using this
theorem txs_end {fs : List Fld} : ∀ (f k : Nat), (txsFrom fs f k).length < f → txtF fs (12 + ((k + (txsFrom fs f k).length : Nat) : Int)) = []
  | 0, k, h => by omega
  | f + 1, k, h => by
    simp only [txsFrom] at h ⊢
    by_cases hc : txtF fs (12 + (k : Int)) = []
    · rw [if_pos hc]; exact hc
    · rw [if_neg hc] at h ⊢
      have := txs_end f (k + 1) (by simpa using h)
      rw [List.length_cons, show k + ((txsFrom fs f (k + 1)).length + 1) = k + 1 + (txsFrom fs f (k + 1)).length from by omega]
      exact this
theorem txs_lt {fs : List Fld} (h : ∀ f ∈ fs, FRight f) : ∀ (f k : Nat), ∀ t ∈ txsFrom fs f k, ∀ x ∈ t, x < 256
  | 0, k, t, ht => by simp [txsFrom] at ht
  | f + 1, k, t, ht => by
    simp only [txsFrom] at ht
    split at ht
    · cases ht
    · rcases List.mem_cons.1 ht with rfl | ht
      · exact (txtF_lt h _).1
      · exact txs_lt h f (k + 1) t ht
theorem ctg_apart (fs : List Fld) : (ctg fs).Pairwise (fun x y => x.1 ≠ y.1) := by
  have key : ∀ (f k : Nat), (tgsFrom fs f k).Pairwise (fun x y => x.1 ≠ y.1) := by
    intro f
    induction f with
    | zero => intro k; exact .nil
    | succ f ih =>
      intro k
      simp only [tgsFrom]
      refine List.pairwise_cons.2 ⟨fun y hy => ?_, ?_⟩
      · split at hy
        · cases hy
        · obtain ⟨j, _, rfl, _⟩ := (tgs_form f (k + 1) y).1 hy
          show 12 + (k : Int) ≠ 12 + ((k + 1 + j : Nat) : Int)
          omega
      · split
        · exact .nil
        · exact ih (k + 1)
  unfold ctg
  refine List.pairwise_append.2 ⟨by decide, key 16 0, fun x hx y hy => ?_⟩
  obtain ⟨j, _, rfl, _⟩ := (tgs_form 16 0 y).1 hy
  have := (tg11_text x hx).2.2
  show x.1 ≠ 12 + ((0 + j : Nat) : Int)
  omega
/-- fields that were read as a state -/
structure FineC (fs : List Fld) : Prop where
  rise : fs.Pairwise (fun f g => f.tag < g.tag)
  right : ∀ f ∈ fs, FRight f ∧ flt f 0 = 0 ∧ 1 ≤ f.tag ∧ f.tag ≤ 31
  tags : ∀ f ∈ fs, ∃ x ∈ ctg fs, f.tag = x.1
  forms : ∀ f ∈ fs, f.text = decide (11 ≤ f.tag)
theorem fineC_of {l : List Nat} (hl : ∀ x ∈ l, x < 256) (h : (recs l).2.2 = 0) (he : errR (tkF (recs l).1 (ctg (recs l).1)) (tkE (recs l).1 (ctg (recs l).1)) = 0) : FineC (recs l).1 := by
  obtain ⟨_, r2, r3, _⟩ := recs_ok l hl h
  obtain ⟨r5, r6⟩ := encs_rise _ _ _ _ r2
  obtain ⟨e1, e2⟩ := errR_zero.1 he
  refine ⟨r5, fun f hf => ⟨r3 f hf, (r6 f hf).2.2.2, (r6 f hf).2.1, (r6 f hf).2.2.1⟩, e2, fun f hf => ?_⟩
  obtain ⟨x, hx, hfx⟩ := e2 f hf
  have h1 := tk_right (ctg (recs l).1) _ (ctg_apart _) e1 x hx f (by rw [← hfx]; exact getF_of_mem r5 hf)
  rw [h1, hfx]
  rcases List.mem_append.1 hx with h | h
  · exact (tg11_text x h).1
  · obtain ⟨j, _, rfl, _⟩ := (tgs_form 16 0 x).1 h
    show true = decide (11 ≤ 12 + ((0 + j : Nat) : Int))
    exact (decide_eq_true (by omega)).symm
theorem FineC.nzf {fs : List Fld} (h : FineC fs) : ∀ f ∈ fs, nz f = true := by
  intro f hf
  obtain ⟨⟨_, hb, _, _⟩, hz, t1, t2⟩ := h.right f hf
  have h3 := flt_nz (F := f) (A := 0) (by omega) t1 t2 (fun _ => hb)
  rw [hz] at h3
  by_cases hn : nz f = true
  · exact hn
  · rw [if_neg hn] at h3; cases h3
theorem FineC.num {fs : List Fld} (h : FineC fs) {t : Int} (ht : t ≤ 10) : getF fs t = if numF fs t = 0 then none else some ⟨t, false, numF fs t, []⟩ := by
  unfold numF
  rcases hg : getF fs t with _ | f
  · rfl
  · obtain ⟨m1, m2⟩ := getF_mem hg
    have hx := h.forms f m1
    rw [m2, decide_eq_false (by omega)] at hx
    obtain ⟨⟨_, _, hn, _⟩, hf⟩ := h.right f m1
    have hnz : f.num ≠ 0 := by
      intro e
      have h9 := h.nzf f m1
      unfold nz at h9
      rw [if_neg (by rw [hx]; simp), e] at h9
      cases h9
    have hb : f.bytes = [] := by
      have h9 : norm f = { f with bytes := [] } := by unfold norm; rw [if_neg (by rw [hx]; simp)]
      rw [h9] at hn
      exact (congrArg Fld.bytes hn).symm
    simp only [hx, if_true]
    rw [if_neg hnz]
    obtain ⟨a, b, c, d⟩ := f
    simp only at m2 hx hb
    rw [m2, hx, hb]
theorem FineC.txt {fs : List Fld} (h : FineC fs) {t : Int} (ht : 11 ≤ t) : getF fs t = if txtF fs t = [] then none else some ⟨t, true, 0, txtF fs t⟩ := by
  unfold txtF
  rcases hg : getF fs t with _ | f
  · rfl
  · obtain ⟨m1, m2⟩ := getF_mem hg
    have hx := h.forms f m1
    rw [m2, decide_eq_true ht] at hx
    obtain ⟨⟨_, _, hn, _⟩, hf⟩ := h.right f m1
    have hnz : f.bytes ≠ [] := by
      intro e
      have h9 := h.nzf f m1
      unfold nz at h9
      rw [if_pos hx, e] at h9
      cases h9
    have hb : f.num = 0 := by
      have h9 : norm f = { f with num := 0 } := by unfold norm; rw [if_pos hx]
      rw [h9] at hn
      exact (congrArg Fld.num hn).symm
    simp only [hx, if_true]
    rw [if_neg hnz]
    obtain ⟨a, b, c, d⟩ := f
    simp only at m2 hx hb
    rw [m2, hx, hb]
theorem sfs_eq {fs : List Fld} (h : FineC fs) (ha : (rdAll (txsFrom fs 16 0)).2 = true) {s : St} (hS : stL fs = s) (hv : vldB s = true) : sfs s = fs := by
  have v := vst_of hv
  have hR : ∀ f ∈ fs, FRight f := fun f hf => (h.right f hf).1
  have hln : s.lines = (rdAll (txsFrom fs 16 0)).1 := by rw [← hS]; rfl
  have hmap : s.lines.map lnT = txsFrom fs 16 0 := by rw [hln]; exact rdAll_form _ (txs_lt hR 16 0) ha (by rw [← hln]; exact v.each.2)
  have hlen : s.lines.length = (txsFrom fs 16 0).length := by rw [← hmap, List.length_map]
  have hnum : ∀ (t : Int) (x : Int) (n : Nat), x.toNat = n → getF (stFs s) t = some ⟨t, false, n, []⟩ → x = capN (numF fs t) → x < 4611686018427387904 → t ≤ 10 → getF (sfs s) t = getF fs t := by
    intro t x n hx h1 h2 h3 h4
    rw [(sfs_num v h1).1, h.num h4, ← hx, capN_invC h2 h3]
  have hS1 : s.order = capN (numF fs 1) ∧ s.status = capN (numF fs 2) ∧ s.prior = capN (numF fs 3) ∧ s.cur = capN (numF fs 4) ∧ s.tax = capN (numF fs 5) ∧ s.paid = capN (numF fs 6) ∧ s.refunded = capN (numF fs 7) ∧ s.events = capN (numF fs 8) ∧ s.refused = capN (numF fs 9) ∧ s.stamp = capN (numF fs 10) ∧ s.who = str8 (txtF fs 11) := by
    rw [← hS]; exact ⟨rfl, rfl, rfl, rfl, rfl, rfl, rfl, rfl, rfl, rfl, rfl⟩
  obtain ⟨n1, n2, n3, n4, n5, n6, n7, n8, n9, n10, n11⟩ := hS1
  refine rise_ext _ _ ((stFs_pw v).filter _) h.rise (fun t => ?_)
  by_cases ht : 1 ≤ t ∧ t ≤ 11
  · obtain ⟨a1, a2, b1, b2, c1, c2, d1, d2, e1, e2, p1, p2, r1, r2, ev1, ev2, f1, f2, g1, g2, hw, hl⟩ := v
    have hv : t = 1 ∨ t = 2 ∨ t = 3 ∨ t = 4 ∨ t = 5 ∨ t = 6 ∨ t = 7 ∨ t = 8 ∨ t = 9 ∨ t = 10 ∨ t = 11 := by omega
    rcases hv with rfl | rfl | rfl | rfl | rfl | rfl | rfl | rfl | rfl | rfl | rfl
    · exact hnum 1 s.order _ rfl rfl n1 (by omega) (by omega)
    · exact hnum 2 s.status _ rfl rfl n2 (by omega) (by omega)
    · exact hnum 3 s.prior _ rfl rfl n3 (by omega) (by omega)
    · exact hnum 4 s.cur _ rfl rfl n4 (by omega) (by omega)
    · exact hnum 5 s.tax _ rfl rfl n5 (by omega) (by omega)
    · exact hnum 6 s.paid _ rfl rfl n6 (by omega) (by omega)
    · exact hnum 7 s.refunded _ rfl rfl n7 (by omega) (by omega)
    · exact hnum 8 s.events _ rfl rfl n8 (by omega) (by omega)
    · exact hnum 9 s.refused _ rfl rfl n9 (by omega) (by omega)
    · exact hnum 10 s.stamp _ rfl rfl n10 (by omega) (by omega)
    · rw [(sfs_txt ⟨a1, a2, b1, b2, c1, c2, d1, d2, e1, e2, p1, p2, r1, r2, ev1, ev2, f1, f2, g1, g2, hw, hl⟩ (t := 11) (l := nums8 s.who) rfl).1, h.txt (by omega), n11, nums8_str8 _ (txtF_lt hR 11).1]
  · by_cases h12 : 12 ≤ t
    · obtain ⟨k, rfl⟩ : ∃ k : Nat, t = 12 + (k : Int) := ⟨(t - 12).toNat, by omega⟩
      rw [sfs_line v, h.txt (by omega)]
      by_cases hk : k < (txsFrom fs 16 0).length
      · obtain ⟨g1, g2⟩ := txs_get 16 0 k hk
        rw [Nat.zero_add] at g1 g2
        rw [if_neg g2]
        obtain ⟨p, hp⟩ := ln_get (L := s.lines) (k := k) (by omega)
        rw [hp]
        have : lnT p = txtF fs (12 + (k : Int)) := by
          rw [← hmap, List.getElem?_map, hp] at g1
          exact Option.some.inj g1
        rw [← this]; rfl
      · rw [List.getElem?_eq_none (by omega)]
        show none = _
        by_cases hg : txtF fs (12 + (k : Int)) = []
        · rw [if_pos hg]
        · exfalso
          have hsome := h.txt (t := 12 + (k : Int)) (by omega)
          rw [if_neg hg] at hsome
          obtain ⟨m1, m2⟩ := getF_mem hsome
          obtain ⟨x, hx, hfx⟩ := h.tags _ m1
          rcases List.mem_append.1 hx with h' | h'
          · have := (tg11_text x h').2.2
            rw [m2] at hfx; omega
          · obtain ⟨j, hj, rfl, hall⟩ := (tgs_form 16 0 x).1 h'
            rw [m2] at hfx
            have hjk : j = k := by simp only [Nat.zero_add] at hfx; omega
            subst hjk
            have hlt : (txsFrom fs 16 0).length < 16 := by omega
            have hend := txs_end 16 0 hlt
            rw [Nat.zero_add] at hend
            by_cases hjl : (txsFrom fs 16 0).length < j
            · exact hall _ hjl (by rw [Nat.zero_add]; exact hend)
            · have : j = (txsFrom fs 16 0).length := by omega
              rw [← this] at hend
              exact hg hend
    · rw [getF_none.2 (fun f hf e => ?_), getF_none.2 (fun f hf e => ?_)]
      · have := (h.right f hf).2.2.1; omega
      · have := (stFs_form s f (List.mem_filter.1 hf).1).2.2; omega
/-- what canon.Decode reads is a valid state, and its record is what was read -/
theorem cdec_form {l : List Nat} (hl : ∀ x ∈ l, x < 256) (h : (cdec l).2 = 0) : vldB (cdec l).1 = true ∧ ones (sfs (cdec l).1) = l := by
  unfold cdec at h ⊢
  by_cases c1 : (recs l).2.2 = 0
  · rw [if_neg (by simp [c1])] at h ⊢
    by_cases c2 : errR (tkF (recs l).1 (ctg (recs l).1)) (tkE (recs l).1 (ctg (recs l).1)) = 0
    · rw [if_neg (by simp [c2])] at h ⊢
      by_cases c3 : (rdAll (txsFrom (recs l).1 16 0)).2 = true ∧ vldB (stL (recs l).1) = true
      · rw [if_pos c3]
        refine ⟨c3.2, ?_⟩
        have h8 := sfs_eq (fineC_of hl c1 c2) c3.1 rfl c3.2
        have h7 := sfs_encs (vst_of c3.2)
        simp only
        rw [h8] at h7 ⊢
        rw [(recs_ok l hl c1).2.1] at h7
        exact (Prod.mk.inj h7).1.symm
      · rw [if_neg c3] at h; cases h
    · rw [if_pos c2] at h; simp only at h; omega
  · rw [if_pos c1] at h; simp only at h; omega
theorem cdec_err {l : List Nat} (h : (cdec l).2 ≠ 0) : (cdec l).1 = zeroS := by
  unfold cdec at h ⊢
  split
  · rfl
  · rename_i c1
    rw [if_neg c1] at h
    split
    · rfl
    · rename_i c2
      rw [if_neg c2] at h
      split
      · rename_i c3
        rw [if_pos c3] at h
        exact absurd rfl h
      · rfl
end Go.Proofs.Ytfdaefhamoeaiaa
