/- Own texts, joined: Od2. -/
import Derived.Test.YtblfmfanfpohbaaGreatG07
namespace Go.Proofs.YtblfmfanfpohbaaGreat
open Go.ChangeShapes Go.WideShapes Go.ChangeAt Go.RowKit
set_option linter.unusedVariables false
theorem fits0 {s : St} (h : fitsB s = true) (h1 : standS s = 0) : untB s = true := by
  unfold fitsB at h; rwa [if_pos h1] at h
theorem fits1 {s : St} (h : fitsB s = true) (h1 : standS s = 1) : unshB s.lines = true ∧ s.refunded = 0 ∧ paidB s = false := by
  unfold fitsB at h
  rw [if_neg (by omega), if_pos h1] at h
  simpa only [Bool.and_eq_true, beq_iff_eq, Bool.not_eq_true'] using h
theorem fits3 {s : St} (h : fitsB s = true) (h1 : standS s = 3) : paidB s = true ∧ wholeB s.lines = false := by
  unfold fitsB at h
  rw [if_neg (by omega), if_neg (by omega), if_pos h1] at h
  simpa only [Bool.and_eq_true, beq_iff_eq, Bool.not_eq_true'] using h
theorem fits4 {s : St} (h : fitsB s = true) (h1 : standS s = 4) : paidB s = true ∧ wholeB s.lines = true := by
  unfold fitsB at h
  rw [if_neg (by omega), if_neg (by omega), if_neg (by omega), if_pos h1] at h
  simpa only [Bool.and_eq_true] using h
theorem fits5 {s : St} (h : fitsB s = true) (h1 : standS s = 5) : unshB s.lines = true := by
  unfold fitsB at h
  rwa [if_neg (by omega), if_neg (by omega), if_neg (by omega), if_neg (by omega)] at h
theorem mk1 {s : St} (h1 : standS s = 1) (a : unshB s.lines = true) (b : s.refunded = 0) (c : paidB s = false) : fitsB s = true := by
  unfold fitsB
  rw [if_neg (by omega), if_pos h1, a, b, c]; rfl
theorem mk3 {s : St} (h1 : standS s = 3) (a : paidB s = true) (b : wholeB s.lines = false) : fitsB s = true := by
  unfold fitsB
  rw [if_neg (by omega), if_neg (by omega), if_pos h1, a, b]; rfl
theorem mk4 {s : St} (h1 : standS s = 4) (a : paidB s = true) (b : wholeB s.lines = true) : fitsB s = true := by
  unfold fitsB
  rw [if_neg (by omega), if_neg (by omega), if_neg (by omega), if_pos h1, a, b]; rfl
theorem mk5 {s : St} (h1 : standS s = 5) (a : unshB s.lines = true) : fitsB s = true := by
  unfold fitsB
  rw [if_neg (by omega), if_neg (by omega), if_neg (by omega), if_neg (by omega)]; exact a
theorem stand_st {s : St} (h : s.status ≠ 2) : standS s = s.status := if_neg h
theorem stand_held {s : St} (h : s.status = 2) : standS s = s.prior := if_pos h
theorem prior_st {s : St} (h : priorB s = true) (h2 : s.status ≠ 2) : s.prior = 0 := by
  unfold priorB at h; rw [if_neg h2] at h; simpa using h
theorem prior_held {s : St} (h : priorB s = true) (h2 : s.status = 2) : s.prior = 1 ∨ s.prior = 3 := by
  unfold priorB at h; rw [if_pos h2] at h; simpa using h
theorem prior_mk {s : St} (h2 : s.status ≠ 2) (h : s.prior = 0) : priorB s = true := by
  unfold priorB; rw [if_neg h2, h]; rfl
theorem prior_mk2 {s : St} (h2 : s.status = 2) (h : s.prior = 1 ∨ s.prior = 3) : priorB s = true := by
  unfold priorB; rw [if_pos h2]; rcases h with h | h <;> rw [h] <;> rfl
theorem paidB_false {s : St} (h : s.paid = 0) : paidB s = false := by unfold paidB; rw [h]; rfl
theorem fits_same {t u : St} (h0 : standS t ≠ 0) (hs : u.status = t.status) (hp : u.prior = t.prior) (hl : u.lines = t.lines) (hr : u.refunded = t.refunded) (hpd : u.paid = t.paid) (htx : u.tax = t.tax) (h : fitsB t = true) : fitsB u = true := by
  have e1 : standS u = standS t := by unfold standS; rw [hs, hp]
  have e2 : paidB u = paidB t := paidB_of hpd (due_of (by rw [hl]) htx)
  unfold fitsB at h ⊢
  rw [e1, e2, hl, hr]
  rw [if_neg h0] at h ⊢
  exact h
/-- what is the same behind every event that was taken -/
theorem vl_fine {s t u : St} {e : Ev} (v : Vl s) (hr : Right 5 e) (he : s.events ≠ 1099511627776) (hu : u = { t with stamp := if s.stamp < e.stamp then e.stamp else s.stamp, who := if (e.who.toList == []) = true then s.who else e.who, events := s.events + 1 })
    (ho : t.order = s.order) (hrf : t.refused = s.refused) (s1 : 0 ≤ t.status) (s2 : t.status ≤ 5) (c1 : 0 ≤ t.cur) (c2 : t.cur ≤ 3) (t1 : 0 ≤ t.tax) (t2 : t.tax ≤ 5000)
    (lines : linesB t.lines = true) (prior : priorB t = true) (p1 : 0 ≤ t.paid) (p2 : t.paid ≤ dueS t) (f1 : 0 ≤ t.refunded) (f2 : t.refunded ≤ t.paid) (h0 : standS t ≠ 0) (hf : fitsB t = true) : Vl u := by
  subst hu
  have a1 := v.o1
  have a2 := v.o2
  have a3 := v.e1
  have a4 := v.e2
  have a5 := v.r1
  have a6 := v.r2
  have a7 := v.m1
  have a8 := v.m2
  have b1 := hr.stamp0
  have b2 := hr.stamp1
  refine ⟨by (try simp only); omega, by (try simp only); omega, s1, s2, c1, c2, t1, t2, by (try simp only); omega, by (try simp only); omega, by (try simp only); omega, by (try simp only); omega, ?_, ?_, ?_, lines, prior, p1, p2, f1, f2, fits_same h0 rfl rfl rfl rfl rfl rfl hf⟩
  · simp only; split <;> omega
  · simp only; split <;> omega
  · simp only; split
    · exact v.who
    · exact who_right hr
theorem std_zero {s : St} {k : Int} (h : stdR s k = 0) : useB s k = true ∧ (s.status = 0 ↔ k = 1) := by
  unfold stdR at h
  split at h
  · omega
  · split at h
    · omega
    · split at h
      · omega
      · rename_i a b c
        refine ⟨by cases hc : useB s k <;> simp_all, by omega⟩
theorem unt_parts {s : St} (h : untB s = true) : s.lines = [] ∧ s.paid = 0 := by
  simp only [untB, Bool.and_eq_true, beq_iff_eq] at h
  exact ⟨List.length_eq_zero_iff.1 h.1, h.2.2.2.1⟩
theorem fine_valid {s : St} {e : Ev} (v : Vl s) (hr : Right 5 e) (he : s.events ≠ 1099511627776) (hst : stdR s e.kind = 0) (hrf : refR s e = 0) : Vl (fineS s e) := by
  obtain ⟨hu, hz⟩ := std_zero hst
  have k0 := hr.kind0
  have k1 : e.kind ≤ lastK 5 := hr.kind1
  simp [lastK] at k1
  have hk : e.kind = 1 ∨ e.kind = 2 ∨ e.kind = 3 ∨ e.kind = 4 ∨ e.kind = 5 ∨ e.kind = 6 ∨ e.kind = 7 ∨ e.kind = 8 ∨ e.kind = 9 ∨ e.kind = 10 := by omega
  have dv := due_bound v.lines v.t1 v.t2
  have p1 := v.p1
  have p2 := v.p2
  have f1 := v.f1
  have f2 := v.f2
  rcases hk with hk | hk | hk | hk | hk | hk | hk | hk | hk | hk
  · -- place
    have s0 : s.status = 0 := hz.2 hk
    have pr := prior_st v.prior (by omega)
    obtain ⟨l0, q0⟩ := unt_parts (fits0 v.fits (by rw [stand_st (by omega)]; exact s0))
    have hd : doS s e = { s with status := 1, cur := e.cur, tax := e.tax } := by unfold doS; rw [if_pos hk]
    refine vl_fine v hr he (t := { s with status := 1, cur := e.cur, tax := e.tax }) (by simp only [fineS, hd]) rfl rfl (by simp) (by simp) hr.cur0 hr.cur1 hr.tax0 hr.tax1 v.lines (prior_mk (by simp) pr) p1 ?_ f1 f2 (by rw [stand_st (by simp)]; (try simp)) (mk1 (by rw [stand_st (by simp)]) (by simp only [l0]; rfl) (by (try simp only); omega) (paidB_false q0))
    simp only [q0, dueS, l0, net]; simp
  · -- add
    have hu' : s.status = 1 ∧ s.paid = 0 := by unfold useB at hu; rw [if_neg (by omega), if_pos hk] at hu; simpa using hu
    obtain ⟨u1, u2, u3⟩ := fits1 v.fits (by rw [stand_st (by omega)]; exact hu'.1)
    have pr := prior_st v.prior (by omega)
    have ha : e.qty ≠ 0 ∧ (match lnAt s.lines e.item with | some p => p.price = e.price ∧ p.qty + e.qty ≤ 100000 | none => s.lines.length ≠ 16) := by
      unfold refR at hrf
      rw [if_pos hk] at hrf
      unfold refAdd at hrf
      split at hrf
      · omega
      · refine ⟨by assumption, ?_⟩
        split at hrf
        · split at hrf
          · omega
          · split at hrf
            · omega
            · rename_i q hq h1 h2
              rw [hq]
              exact ⟨by simpa using h1, by omega⟩
        · rename_i hq
          rw [hq]
          split at hrf
          · omega
          · assumption
    obtain ⟨l1, l2⟩ := addL_ok v.lines hr ha.2 ha.1 u1
    have hd : doS s e = { s with lines := addL s.lines e } := by unfold doS; rw [if_neg (by omega), if_pos hk]
    have dn := (due_bound (s := { s with lines := addL s.lines e }) l1 v.t1 v.t2).1
    refine vl_fine v hr he (t := { s with lines := addL s.lines e }) (by simp only [fineS, hd]) rfl rfl v.s1 v.s2 v.c1 v.c2 v.t1 v.t2 l1 (prior_mk (by (try simp only); omega) pr) p1 (by (try simp only); omega) f1 f2 (by rw [stand_st (by (try simp only); omega)]; simp only; omega) (mk1 (by rw [stand_st (by (try simp only); omega)]; exact hu'.1) l2 u2 (paidB_false hu'.2))
  · -- pay
    have hu' : s.status = 1 := by unfold useB at hu; rw [if_neg (by omega), if_neg (by omega), if_pos hk] at hu; simpa using hu
    obtain ⟨u1, u2, u3⟩ := fits1 v.fits (by rw [stand_st (by omega)]; exact hu')
    have pr := prior_st v.prior (by omega)
    have pe := hr.price0
    have ha : e.price ≤ dueS s - s.paid ∧ e.price ≠ 0 := by
      unfold refR at hrf
      rw [if_neg (by omega), if_pos hk] at hrf
      unfold refMoney at hrf
      split at hrf
      · omega
      · split at hrf <;> omega
    have hd : doS s e = payS s e := by unfold doS; rw [if_neg (by omega), if_neg (by omega), if_pos hk]
    have dd : ∀ q, dueS { s with paid := s.paid + e.price, status := q } = dueS s := fun q => due_of rfl rfl
    by_cases hp : paidB { s with paid := s.paid + e.price } = true
    · have ht : payS s e = { s with paid := s.paid + e.price, status := 3 } := by unfold payS; rw [if_pos hp]
      refine vl_fine v hr he (t := payS s e) (by simp only [fineS, hd]) ?_ ?_ ?_ ?_ ?_ ?_ ?_ ?_ ?_ ?_ ?_ ?_ ?_ ?_ ?_ ?_ <;> rw [ht] <;> try (first | exact v.c1 | exact v.c2 | exact v.t1 | exact v.t2 | exact v.lines | rfl)
      · simp
      · simp
      · exact prior_mk (by simp) pr
      · simp only; omega
      · rw [dd]; simp only; omega
      · exact f1
      · simp only; omega
      · rw [stand_st (by simp)]; simp
      · refine mk3 (by rw [stand_st (by simp)]) ?_ ?_
        · exact (paidB_of rfl (due_of rfl rfl)).trans hp
        · cases hw : wholeB s.lines with
          | false => rfl
          | true =>
            have := unsh_whole v.lines u1 hw
            have h0 : dueS s = 0 := by unfold dueS; rw [this]; simp [net]
            omega
    · have hp' : paidB { s with paid := s.paid + e.price } = false := by cases h : paidB { s with paid := s.paid + e.price } <;> simp_all
      have ht : payS s e = { s with paid := s.paid + e.price } := by unfold payS; rw [if_neg hp]
      refine vl_fine v hr he (t := payS s e) (by simp only [fineS, hd]) ?_ ?_ ?_ ?_ ?_ ?_ ?_ ?_ ?_ ?_ ?_ ?_ ?_ ?_ ?_ ?_ <;> rw [ht] <;> try (first | exact v.c1 | exact v.c2 | exact v.t1 | exact v.t2 | exact v.lines | exact v.s1 | exact v.s2 | rfl)
      · exact prior_mk (by (try simp only); omega) pr
      · simp only; omega
      · rw [show dueS { s with paid := s.paid + e.price } = dueS s from due_of rfl rfl]; simp only; omega
      · exact f1
      · simp only; omega
      · rw [stand_st (by (try simp only); omega)]; simp only; omega
      · exact mk1 (by rw [stand_st (by (try simp only); omega)]; exact hu') u1 u2 hp'
  · -- ship
    have hu' : s.status = 3 := by unfold useB at hu; rw [if_neg (by omega), if_neg (by omega), if_neg (by omega), if_pos hk] at hu; simpa using hu
    obtain ⟨u1, u2⟩ := fits3 v.fits (by rw [stand_st (by omega)]; exact hu')
    have pr := prior_st v.prior (by omega)
    have ha : ∀ p, lnAt s.lines e.item = some p → e.qty ≤ p.qty - p.shipped := by
      intro p hp
      unfold refR at hrf
      rw [if_neg (by omega), if_neg (by omega), if_pos hk] at hrf
      unfold refTake at hrf
      rw [hp] at hrf
      split at hrf
      · omega
      · simp only at hrf
        split at hrf <;> omega
    obtain ⟨l1, l2⟩ := shipL_ok v.lines hr ha
    have hd : doS s e = shipS s e := by unfold doS; rw [if_neg (by omega), if_neg (by omega), if_neg (by omega), if_pos hk]
    by_cases hp : wholeB (shipL s.lines e) = true
    · have ht : shipS s e = { s with lines := shipL s.lines e, status := 4 } := by unfold shipS; rw [if_pos hp]
      refine vl_fine v hr he (t := shipS s e) (by simp only [fineS, hd]) ?_ ?_ ?_ ?_ ?_ ?_ ?_ ?_ ?_ ?_ ?_ ?_ ?_ ?_ ?_ ?_ <;> rw [ht] <;> try (first | exact v.c1 | exact v.c2 | exact v.t1 | exact v.t2 | exact l1 | exact p1 | exact f1 | exact f2 | rfl)
      · simp
      · simp
      · exact prior_mk (by simp) pr
      · rw [show dueS { s with lines := shipL s.lines e, status := 4 } = dueS s from due_of l2 rfl]; exact p2
      · rw [stand_st (by simp)]; simp
      · exact mk4 (by rw [stand_st (by simp)]) ((paidB_of (s := s) (t := { s with lines := shipL s.lines e, status := _ }) rfl (due_of (s := s) (t := { s with lines := shipL s.lines e, status := _ }) l2 rfl)).trans u1) hp
    · have hp' : wholeB (shipL s.lines e) = false := by cases h : wholeB (shipL s.lines e) <;> simp_all
      have ht : shipS s e = { s with lines := shipL s.lines e } := by unfold shipS; rw [if_neg hp]
      refine vl_fine v hr he (t := shipS s e) (by simp only [fineS, hd]) ?_ ?_ ?_ ?_ ?_ ?_ ?_ ?_ ?_ ?_ ?_ ?_ ?_ ?_ ?_ ?_ <;> rw [ht] <;> try (first | exact v.c1 | exact v.c2 | exact v.t1 | exact v.t2 | exact l1 | exact p1 | exact f1 | exact f2 | exact v.s1 | exact v.s2 | rfl)
      · exact prior_mk (by (try simp only); omega) pr
      · rw [show dueS { s with lines := shipL s.lines e } = dueS s from due_of l2 rfl]; exact p2
      · rw [stand_st (by (try simp only); omega)]; simp only; omega
      · exact mk3 (by rw [stand_st (by (try simp only); omega)]; exact hu') ((paidB_of (s := s) (t := { s with lines := shipL s.lines e, status := _ }) rfl (due_of (s := s) (t := { s with lines := shipL s.lines e, status := _ }) l2 rfl)).trans u1) hp'
  · -- cancel
    have hu' : unshB s.lines = true := by
      unfold useB at hu; rw [if_neg (by omega), if_neg (by omega), if_neg (by omega), if_neg (by omega), if_pos hk] at hu
      simp only [Bool.and_eq_true] at hu; exact hu.2
    have hd : doS s e = { s with status := 5, prior := 0 } := by unfold doS; rw [if_neg (by omega), if_neg (by omega), if_neg (by omega), if_neg (by omega), if_pos hk]
    exact vl_fine v hr he (t := { s with status := 5, prior := 0 }) (by simp only [fineS, hd]) rfl rfl (by simp) (by simp) v.c1 v.c2 v.t1 v.t2 v.lines (prior_mk (by simp) rfl) p1 (by rw [show dueS { s with status := 5, prior := 0 } = dueS s from due_of rfl rfl]; exact p2) f1 f2 (by rw [stand_st (by simp)]; (try simp)) (mk5 (by rw [stand_st (by simp)]) hu')
  · -- drop
    have hu' : s.status = 1 ∧ s.paid = 0 := by unfold useB at hu; rw [if_neg (by omega), if_neg (by omega), if_neg (by omega), if_neg (by omega), if_neg (by omega), if_pos hk] at hu; simpa using hu
    obtain ⟨u1, u2, u3⟩ := fits1 v.fits (by rw [stand_st (by omega)]; exact hu'.1)
    have pr := prior_st v.prior (by omega)
    have ha : ∀ p, lnAt s.lines e.item = some p → e.qty ≤ p.qty := by
      intro p hp
      unfold refR at hrf
      rw [if_neg (by omega), if_neg (by omega), if_neg (by omega), if_pos hk] at hrf
      unfold refTake at hrf
      rw [hp] at hrf
      split at hrf
      · omega
      · simp only at hrf
        split at hrf <;> omega
    obtain ⟨l1, l2⟩ := dropL_ok v.lines hr ha u1
    have hd : doS s e = { s with lines := dropL s.lines e } := by unfold doS; rw [if_neg (by omega), if_neg (by omega), if_neg (by omega), if_neg (by omega), if_neg (by omega), if_pos hk]
    have dn := (due_bound (s := { s with lines := dropL s.lines e }) l1 v.t1 v.t2).1
    exact vl_fine v hr he (t := { s with lines := dropL s.lines e }) (by simp only [fineS, hd]) rfl rfl v.s1 v.s2 v.c1 v.c2 v.t1 v.t2 l1 (prior_mk (by (try simp only); omega) pr) p1 (by (try simp only); omega) f1 f2 (by rw [stand_st (by (try simp only); omega)]; simp only; omega) (mk1 (by rw [stand_st (by (try simp only); omega)]; exact hu'.1) l2 u2 (paidB_false hu'.2))
  · -- refund
    have hu' : s.status = 3 ∨ s.status = 4 ∨ s.status = 5 := by
      unfold useB at hu; rw [if_neg (by omega), if_neg (by omega), if_neg (by omega), if_neg (by omega), if_neg (by omega), if_neg (by omega), if_pos hk] at hu; simpa using hu
    have pe := hr.price0
    have ha : e.price ≤ s.paid - s.refunded := by
      unfold refR at hrf
      rw [if_neg (by omega), if_neg (by omega), if_neg (by omega), if_neg (by omega), if_pos hk] at hrf
      unfold refMoney at hrf
      split at hrf
      · omega
      · split at hrf <;> omega
    have pr := prior_st v.prior (by omega)
    have hd : doS s e = { s with refunded := s.refunded + e.price } := by unfold doS; rw [if_neg (by omega), if_neg (by omega), if_neg (by omega), if_neg (by omega), if_neg (by omega), if_neg (by omega), if_pos hk]
    have hS : standS { s with refunded := s.refunded + e.price } = s.status := stand_st (by (try simp only); omega)
    refine vl_fine v hr he (t := { s with refunded := s.refunded + e.price }) (by simp only [fineS, hd]) rfl rfl v.s1 v.s2 v.c1 v.c2 v.t1 v.t2 v.lines (prior_mk (by (try simp only); omega) pr) p1 (by rw [show dueS { s with refunded := s.refunded + e.price } = dueS s from due_of rfl rfl]; exact p2) (by (try simp only); omega) (by (try simp only); omega) (by rw [hS]; omega) ?_
    rcases hu' with h | h | h
    · obtain ⟨u1, u2⟩ := fits3 v.fits (by rw [stand_st (by omega)]; exact h)
      exact mk3 (by rw [hS]; exact h) ((paidB_of (s := s) rfl (due_of rfl rfl)).trans u1) u2
    · obtain ⟨u1, u2⟩ := fits4 v.fits (by rw [stand_st (by omega)]; exact h)
      exact mk4 (by rw [hS]; exact h) ((paidB_of (s := s) rfl (due_of rfl rfl)).trans u1) u2
    · have u1 := fits5 v.fits (by rw [stand_st (by omega)]; exact h)
      exact mk5 (by rw [hS]; exact h) u1
  · -- hold
    have hu' : s.status = 1 ∨ s.status = 3 := by
      unfold useB at hu; rw [if_neg (by omega), if_neg (by omega), if_neg (by omega), if_neg (by omega), if_neg (by omega), if_neg (by omega), if_neg (by omega), if_pos hk] at hu; simpa using hu
    have hd : doS s e = { s with status := 2, prior := s.status } := by unfold doS; rw [if_neg (by omega), if_neg (by omega), if_neg (by omega), if_neg (by omega), if_neg (by omega), if_neg (by omega), if_neg (by omega), if_pos hk]
    have hS : standS { s with status := 2, prior := s.status } = s.status := stand_held rfl
    refine vl_fine v hr he (t := { s with status := 2, prior := s.status }) (by simp only [fineS, hd]) rfl rfl (by simp) (by simp) v.c1 v.c2 v.t1 v.t2 v.lines (prior_mk2 rfl hu') p1 (by rw [show dueS { s with status := 2, prior := s.status } = dueS s from due_of rfl rfl]; exact p2) f1 f2 (by rw [hS]; omega) ?_
    rcases hu' with h | h
    · obtain ⟨u1, u2, u3⟩ := fits1 v.fits (by rw [stand_st (by omega)]; exact h)
      exact mk1 (by rw [hS]; exact h) u1 u2 ((paidB_of (s := s) rfl (due_of rfl rfl)).trans u3)
    · obtain ⟨u1, u2⟩ := fits3 v.fits (by rw [stand_st (by omega)]; exact h)
      exact mk3 (by rw [hS]; exact h) ((paidB_of (s := s) rfl (due_of rfl rfl)).trans u1) u2
  · -- release
    have hu' : s.status = 2 := by
      unfold useB at hu; rw [if_neg (by omega), if_neg (by omega), if_neg (by omega), if_neg (by omega), if_neg (by omega), if_neg (by omega), if_neg (by omega), if_neg (by omega), if_pos hk] at hu; simpa using hu
    have pr := prior_held v.prior hu'
    have hd : doS s e = { s with status := s.prior, prior := 0 } := by unfold doS; rw [if_neg (by omega), if_neg (by omega), if_neg (by omega), if_neg (by omega), if_neg (by omega), if_neg (by omega), if_neg (by omega), if_neg (by omega), if_pos hk]
    have hS : standS { s with status := s.prior, prior := 0 } = s.prior := stand_st (by (try simp only); omega)
    refine vl_fine v hr he (t := { s with status := s.prior, prior := 0 }) (by simp only [fineS, hd]) rfl rfl (by (try simp only); omega) (by (try simp only); omega) v.c1 v.c2 v.t1 v.t2 v.lines (prior_mk (by (try simp only); omega) rfl) p1 (by rw [show dueS { s with status := s.prior, prior := 0 } = dueS s from due_of rfl rfl]; exact p2) f1 f2 (by rw [hS]; omega) ?_
    rcases pr with h | h
    · obtain ⟨u1, u2, u3⟩ := fits1 v.fits (by rw [stand_held hu']; exact h)
      exact mk1 (by rw [hS]; exact h) u1 u2 ((paidB_of (s := s) rfl (due_of rfl rfl)).trans u3)
    · obtain ⟨u1, u2⟩ := fits3 v.fits (by rw [stand_held hu']; exact h)
      exact mk3 (by rw [hS]; exact h) ((paidB_of (s := s) rfl (due_of rfl rfl)).trans u1) u2
  · -- clear
    have hu' : s.status = 3 := by
      unfold useB at hu; rw [if_neg (by omega), if_neg (by omega), if_neg (by omega), if_neg (by omega), if_neg (by omega), if_neg (by omega), if_neg (by omega), if_neg (by omega), if_neg (by omega), if_pos hk] at hu; simpa using hu
    obtain ⟨u1, u2⟩ := fits3 v.fits (by rw [stand_st (by omega)]; exact hu')
    have pr := prior_st v.prior (by omega)
    have hd : doS s e = { s with lines := clrL s.lines, status := 4 } := by unfold doS; rw [if_neg (by omega), if_neg (by omega), if_neg (by omega), if_neg (by omega), if_neg (by omega), if_neg (by omega), if_neg (by omega), if_neg (by omega), if_neg (by omega)]
    obtain ⟨h16, hf⟩ := linesB_from v.lines
    exact vl_fine v hr he (t := { s with lines := clrL s.lines, status := 4 }) (by simp only [fineS, hd]) rfl rfl (by simp) (by simp) v.c1 v.c2 v.t1 v.t2 (linesB_mk (by simpa [clrL] using h16) (linesFrom_clr _ _ hf)) (prior_mk (by simp) pr) p1 (by rw [show dueS { s with lines := clrL s.lines, status := 4 } = dueS s from due_of (net_clr _) rfl]; exact p2) f1 f2 (by rw [stand_st (by simp)]; (try simp)) (mk4 (by rw [stand_st (by simp)]) ((paidB_of (s := s) (t := { s with lines := clrL s.lines, status := 4 }) rfl (due_of (s := s) (t := { s with lines := clrL s.lines, status := 4 }) (net_clr _) rfl)).trans u1) (whole_clr _))
theorem jud_parts {s : St} {e : Ev} (h1 : judS s e ≠ 1) : vldB s = true ∧ chk 5 e = 0 ∧ s.events ≠ 1099511627776 := by
  unfold judS at h1
  split at h1
  · omega
  · rename_i h
    refine ⟨by cases hv : vldB s <;> simp_all, ?_, ?_⟩
    · exact Classical.byContradiction fun hc => h (.inr (.inl hc))
    · exact fun hc => h (.inr (.inr hc))
theorem jud_rest {s : St} {e : Ev} (h1 : judS s e ≠ 1) (h2 : judS s e ≠ 2) : e.order = s.order ∧ judS s e = if stdR s e.kind ≠ 0 then stdR s e.kind else refR s e := by
  have hj := h1
  unfold judS at h1 h2 ⊢
  split at h1
  · omega
  · rename_i ha
    rw [if_neg ha] at h2 ⊢
    split at h2
    · omega
    · rename_i hb
      rw [if_neg hb]
      exact ⟨by omega, rfl⟩
theorem next_valid {s : St} {e : Ev} (h : vldB s = true) : vldB (nextS s e) = true := by
  unfold nextS
  split
  · exact h
  · rename_i h12
    have h1 : judS s e ≠ 1 := fun hc => h12 (.inl hc)
    have h2 : judS s e ≠ 2 := fun hc => h12 (.inr hc)
    obtain ⟨_, hc, he⟩ := jud_parts h1
    have v := vl_of h
    obtain ⟨ho, hj⟩ := jud_rest h1 h2
    split
    · rename_i h0
      rw [hj] at h0
      have hs : stdR s e.kind = 0 := Classical.byContradiction fun hn => by rw [if_pos hn] at h0; exact hn h0
      rw [if_neg (by omega)] at h0
      exact vl_to (fine_valid v (right_of hc) he hs h0)
    · have a3 := v.e1
      have a4 := v.e2
      have a5 := v.r1
      have a6 := v.r2
      refine vl_to ⟨v.o1, v.o2, v.s1, v.s2, v.c1, v.c2, v.t1, v.t2, by (try simp only); omega, by (try simp only); omega, by (try simp only); omega, by (try simp only); omega, v.m1, v.m2, v.who, v.lines, v.prior, v.p1, v.p2, v.f1, v.f2, ?_⟩
      by_cases h0 : standS s = 0
      · have hu := fits0 v.fits h0
        simp only [untB, Bool.and_eq_true, beq_iff_eq] at hu
        unfold fitsB
        rw [if_pos (show standS { s with refused := s.refused + 1, events := s.events + 1 } = 0 from h0)]
        simp only [untB, Bool.and_eq_true, beq_iff_eq]
        obtain ⟨b1, b2, b3, b4, b5, b6, b7⟩ := hu
        exact ⟨b1, b2, b3, b4, b5, b6, by omega⟩
      · exact fits_same h0 rfl rfl rfl rfl rfl rfl v.fits
theorem fold_valid (s : St) (es : List Ev) (h : vldB s = true) : vldB (foldS s es) = true := by
  induction es generalizing s with
  | nil => exact h
  | cons e r ih => exact ih _ (next_valid h)
end Go.Proofs.YtblfmfanfpohbaaGreat
