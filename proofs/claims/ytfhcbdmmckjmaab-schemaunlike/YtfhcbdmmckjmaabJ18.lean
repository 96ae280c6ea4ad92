/- Own texts, joined: Sdc, Cpn. -/
import Derived.Test.YtfhcbdmmckjmaabJ17
import Derived.Test.YtfhcbdmmckjmaabJ13
import Derived.Test.YtfhcbdmmckjmaabJ01
namespace Go.Proofs.Ytfhcbdmmckjmaab
open Go.ChangeShapes Go.WideShapes Go.ChangeAt Go.RowKit
set_option linter.unusedVariables false
theorem capN_inv {u : Nat} {x : Int} (h : x = capN u) (h1 : x ≤ 1099511627776) : x.toNat = u := by
  unfold capN at h
  split at h <;> omega
/-- fields that were read: rising, each right -/
structure Fine (v : Int) (fs : List Fld) : Prop where
  rise : fs.Pairwise (fun f g => f.tag < g.tag)
  right : ∀ f ∈ fs, FRight f ∧ flt f 0 = 0
  tags : ∀ f ∈ fs, 1 ≤ f.tag ∧ f.tag ≤ hasV v
  forms : ∀ f ∈ fs, f.text = isT f.tag
theorem hasV_le (v : Int) : hasV v ≤ 10 := by unfold hasV; repeat' split <;> omega
theorem Fine.nzf {v : Int} {fs : List Fld} (h : Fine v fs) : ∀ f ∈ fs, nz f = true := by
  intro f hf
  have h1 := h.tags f hf
  have h2 := hasV_le v
  obtain ⟨⟨_, hb, _, _⟩, hz⟩ := h.right f hf
  have h3 := flt_nz (F := f) (A := 0) (by omega) h1.1 (by omega) (fun _ => hb)
  rw [hz] at h3
  by_cases hn : nz f = true
  · exact hn
  · rw [if_neg hn] at h3; cases h3
theorem Fine.num {v : Int} {fs : List Fld} (h : Fine v fs) {t : Int} (ht : isT t = false) : getF fs t = if numF fs t = 0 then none else some ⟨t, false, numF fs t, []⟩ := by
  unfold numF
  rcases hg : getF fs t with _ | f
  · rfl
  · obtain ⟨m1, m2⟩ := getF_mem hg
    have hx := h.forms f m1
    rw [m2, ht] at hx
    obtain ⟨⟨_, _, hn, _⟩, hf⟩ := h.right f m1
    have hnz : f.num ≠ 0 := by
      intro e
      have h9 := h.nzf f m1
      unfold nz at h9
      rw [if_neg (by rw [hx]; simp), e] at h9
      cases h9
    have hb : f.bytes = [] := by
      have h9 : norm f = { f with bytes := [] } := by unfold norm; rw [if_neg (by rw [hx]; simp)]
      rw [h9] at hn
      exact (congrArg Fld.bytes hn).symm
    simp only [hx, if_true]
    rw [if_neg hnz]
    obtain ⟨a, b, c, d⟩ := f
    simp only at m2 hx hb
    rw [m2, hx, hb]
theorem Fine.txt {v : Int} {fs : List Fld} (h : Fine v fs) {t : Int} (ht : isT t = true) : getF fs t = if txtF fs t = [] then none else some ⟨t, true, 0, txtF fs t⟩ := by
  unfold txtF
  rcases hg : getF fs t with _ | f
  · rfl
  · obtain ⟨m1, m2⟩ := getF_mem hg
    have hx := h.forms f m1
    rw [m2, ht] at hx
    obtain ⟨⟨_, _, hn, _⟩, hf⟩ := h.right f m1
    have hnz : f.bytes ≠ [] := by
      intro e
      have h9 := h.nzf f m1
      unfold nz at h9
      rw [if_pos hx, e] at h9
      cases h9
    have hb : f.num = 0 := by
      have h9 : norm f = { f with num := 0 } := by unfold norm; rw [if_pos hx]
      rw [h9] at hn
      exact (congrArg Fld.num hn).symm
    simp only [hx, if_true]
    rw [if_neg hnz]
    obtain ⟨a, b, c, d⟩ := f
    simp only at m2 hx hb
    rw [m2, hx, hb]
theorem Fine.off {v : Int} {fs : List Fld} (h : Fine v fs) {t : Int} (ht : hasV v < t) : numF fs t = 0 ∧ txtF fs t = [] := by
  have hg : getF fs t = none := getF_none.2 (fun f hf e => by have := (h.tags f hf).2; omega)
  unfold numF txtF
  rw [hg]
  exact ⟨rfl, rfl⟩
theorem nz_num (t : Int) (n : Nat) : (some (⟨t, false, n, []⟩ : Fld)).bind (fun f => if nz f = true then some f else none) = if n = 0 then none else some ⟨t, false, n, []⟩ := by
  show (if nz ⟨t, false, n, []⟩ = true then some (⟨t, false, n, []⟩ : Fld) else none) = _
  by_cases hn : n = 0
  · subst hn; rfl
  · rw [if_pos (by simp [nz, hn]), if_neg hn]
theorem nz_txt (t : Int) (l : List Nat) : (some (⟨t, true, 0, l⟩ : Fld)).bind (fun f => if nz f = true then some f else none) = if l = [] then none else some ⟨t, true, 0, l⟩ := by
  show (if nz ⟨t, true, 0, l⟩ = true then some (⟨t, true, 0, l⟩ : Fld) else none) = _
  cases l with
  | nil => rfl
  | cons x s => rw [if_pos (show nz ⟨t, true, 0, x :: s⟩ = true from rfl), if_neg (List.cons_ne_nil x s)]
/-- what the version took, back as it was written -/
theorem took {v : Int} {fs : List Fld} (h : Fine v fs) {E : Ev} (hE : ({ evV v fs with qty := qtyV v fs } : Ev) = E) (r : Right v E) : E.kind.toNat = numF fs 1 ∧ E.order.toNat = numF fs 2 ∧ E.item.toNat = numF fs 3 ∧ qN v E = numF fs 4 ∧ E.price.toNat = numF fs 5 ∧ E.cur.toNat = numF fs 6 ∧ E.tax.toNat = numF fs 7 ∧ nums8 E.who = txtF fs 8 ∧ E.stamp.toNat = numF fs 9 ∧ nums8 E.note = txtF fs 10 := by
  have hk : lastK v ≤ 10 := by unfold lastK; repeat' split <;> omega
  have hp : hiP v ≤ 100000000 := by unfold hiP; split <;> omega
  have h8 := (txtF_lt (fun f hf => (h.right f hf).1) 8).1
  have h10 := (txtF_lt (fun f hf => (h.right f hf).1) 10).1
  have bk := r.kind1
  have bo := r.order1
  have bi := r.item1
  have bp := r.price1
  have bc := r.cur1
  have bt := r.tax1
  have bs := r.stamp1
  have bq := r.qty1
  have bq0 := r.qty0
  have off := fun t ht => h.off (t := t) ht
  have hq : E.qty = qtyV v fs := by rw [← hE]
  have q4 : qN v E = numF fs 4 := by
    unfold qN
    rw [hq]
    unfold qtyV
    by_cases h2 : v ≤ 2
    · rw [if_pos h2, if_pos h2, zig_zag _ (by omega)]; omega
    · rw [if_neg h2, if_neg h2]
      refine capN_inv rfl ?_
      have : qtyV v fs = capN (numF fs 4) := if_neg h2
      rw [hq, this] at bq
      omega
  have hv : v = 1 ∨ v = 2 ∨ v = 3 ∨ v = 4 ∨ v = 5 := by have := r.v1; have := r.v5; omega
  clear r hq bq bq0
  refine ⟨?_, ?_, ?_, q4, ?_, ?_, ?_, ?_, ?_, ?_⟩
  all_goals clear q4
  · refine capN_inv ?_ (by omega); rw [← hE]; rcases hv with rfl | rfl | rfl | rfl | rfl <;> rfl
  · refine capN_inv ?_ (by omega); rw [← hE]; rcases hv with rfl | rfl | rfl | rfl | rfl <;> rfl
  · refine capN_inv ?_ (by omega); rw [← hE]; rcases hv with rfl | rfl | rfl | rfl | rfl <;> rfl
  · refine capN_inv ?_ (by omega); rw [← hE]; rcases hv with rfl | rfl | rfl | rfl | rfl <;> rfl
  · by_cases h1 : v ≤ 1
    · have : v = 1 := by omega
      subst this
      rw [(off 6 (by decide)).1, ← hE]; rfl
    · refine capN_inv ?_ (by omega); rw [← hE]; rcases hv with rfl | rfl | rfl | rfl | rfl
      · omega
      all_goals rfl
  · by_cases h1 : v ≤ 2
    · rcases hv with rfl | rfl | rfl | rfl | rfl
      · rw [(off 7 (by decide)).1, ← hE]; rfl
      · rw [(off 7 (by decide)).1, ← hE]; rfl
      all_goals omega
    · refine capN_inv ?_ (by omega); rw [← hE]; rcases hv with rfl | rfl | rfl | rfl | rfl
      · omega
      · omega
      all_goals rfl
  · by_cases h1 : v ≤ 3
    · rcases hv with rfl | rfl | rfl | rfl | rfl
      · rw [(off 8 (by decide)).2, ← hE]; rfl
      · rw [(off 8 (by decide)).2, ← hE]; rfl
      · rw [(off 8 (by decide)).2, ← hE]; rfl
      all_goals omega
    · have : E.who = str8 (txtF fs 8) := by
        rw [← hE]; rcases hv with rfl | rfl | rfl | rfl | rfl
        · omega
        · omega
        · omega
        all_goals rfl
      rw [this, nums8_str8 _ h8]
  · by_cases h1 : v ≤ 4
    · rcases hv with rfl | rfl | rfl | rfl | rfl
      · rw [(off 9 (by decide)).1, ← hE]; rfl
      · rw [(off 9 (by decide)).1, ← hE]; rfl
      · rw [(off 9 (by decide)).1, ← hE]; rfl
      · rw [(off 9 (by decide)).1, ← hE]; rfl
      · omega
    · have : v = 5 := by omega
      subst this
      refine capN_inv ?_ (by omega); rw [← hE]; rfl
  · by_cases h1 : v ≤ 4
    · rcases hv with rfl | rfl | rfl | rfl | rfl
      · rw [(off 10 (by decide)).2, ← hE]; rfl
      · rw [(off 10 (by decide)).2, ← hE]; rfl
      · rw [(off 10 (by decide)).2, ← hE]; rfl
      · rw [(off 10 (by decide)).2, ← hE]; rfl
      · omega
    · have : v = 5 := by omega
      subst this
      have : E.note = str8 (txtF fs 10) := by rw [← hE]; rfl
      rw [this, nums8_str8 _ h10]
theorem efs_eq {v : Int} {fs : List Fld} (h : Fine v fs) {E : Ev} (hE : ({ evV v fs with qty := qtyV v fs } : Ev) = E) (r : Right v E) : efs v E = fs := by
  obtain ⟨t1, t2, t3, t4, t5, t6, t7, t8, t9, t10⟩ := took h hE r
  have hpw := r.ris.pw.1
  have hh := hasV_le v
  refine rise_ext _ _ (hpw.filter _) h.rise (fun t => ?_)
  by_cases ht : 1 ≤ t ∧ t ≤ 10
  · show getF ((evF v E).filter nz) t = _
    rw [getF_filter nz _ t hpw]
    have hv : t = 1 ∨ t = 2 ∨ t = 3 ∨ t = 4 ∨ t = 5 ∨ t = 6 ∨ t = 7 ∨ t = 8 ∨ t = 9 ∨ t = 10 := by omega
    rcases hv with rfl | rfl | rfl | rfl | rfl | rfl | rfl | rfl | rfl | rfl
    · rw [show getF (evF v E) 1 = some ⟨1, false, E.kind.toNat, []⟩ from rfl, nz_num, t1, h.num rfl]
    · rw [show getF (evF v E) 2 = some ⟨2, false, E.order.toNat, []⟩ from rfl, nz_num, t2, h.num rfl]
    · rw [show getF (evF v E) 3 = some ⟨3, false, E.item.toNat, []⟩ from rfl, nz_num, t3, h.num rfl]
    · rw [show getF (evF v E) 4 = some ⟨4, false, qN v E, []⟩ from rfl, nz_num, t4, h.num rfl]
    · rw [show getF (evF v E) 5 = some ⟨5, false, E.price.toNat, []⟩ from rfl, nz_num, t5, h.num rfl]
    · rw [show getF (evF v E) 6 = some ⟨6, false, E.cur.toNat, []⟩ from rfl, nz_num, t6, h.num rfl]
    · rw [show getF (evF v E) 7 = some ⟨7, false, E.tax.toNat, []⟩ from rfl, nz_num, t7, h.num rfl]
    · rw [show getF (evF v E) 8 = some ⟨8, true, 0, nums8 E.who⟩ from rfl, nz_txt, t8, h.txt rfl]
    · rw [show getF (evF v E) 9 = some ⟨9, false, E.stamp.toNat, []⟩ from rfl, nz_num, t9, h.num rfl]
    · rw [show getF (evF v E) 10 = some ⟨10, true, 0, nums8 E.note⟩ from rfl, nz_txt, t10, h.txt rfl]
  · rw [getF_none.2 (fun f hf e => ?_), getF_none.2 (fun f hf e => ?_)]
    · have := h.tags f hf; omega
    · have := (evF_text f (List.mem_filter.1 hf).1).2.2; omega
theorem fine_of {v : Int} {l : List Nat} (hl : ∀ x ∈ l, x < 256) (h1 : 1 ≤ v) (h5 : v ≤ 5) (h : (recs l).2.2 = 0) (he : errR (tkF (recs l).1 (tgV v)) (tkE (recs l).1 (tgV v)) = 0) : Fine v (recs l).1 := by
  obtain ⟨_, r2, r3, _⟩ := recs_ok l hl h
  obtain ⟨r5, r6⟩ := encs_rise _ _ _ _ r2
  obtain ⟨e1, e2⟩ := errR_zero.1 he
  refine ⟨r5, fun f hf => ⟨r3 f hf, (r6 f hf).2.2.2⟩, fun f hf => (tgV_mem h1 h5 f.tag).1 (e2 f hf), fun f hf => ?_⟩
  obtain ⟨x, hx, hfx⟩ := e2 f hf
  rw [hfx, ← tgV_text h1 h5 x hx]
  exact tk_right (tgV v) _ (tgV_apart h1 h5) e1 x hx f (by rw [← hfx]; exact getF_of_mem r5 hf)
/-- what schema.Decode reads is a right event, and its record is what was read -/
theorem sdec_form {v : Int} {l : List Nat} (hl : ∀ x ∈ l, x < 256) (h : (sdec v l).2 = 0) : Right v (sdec v l).1 ∧ ones (efs v (sdec v l).1) = l := by
  by_cases hv : v < 1 ∨ 5 < v
  · rw [show sdec v l = (zeroE, 30) from if_pos hv] at h; cases h
  · rw [show sdec v l = sdR v (evV v) (qtyV v) (tgV v) l from if_neg hv] at h ⊢
    unfold sdR at h ⊢
    by_cases c1 : (recs l).2.2 = 0
    · rw [if_neg (by simp [c1])] at h ⊢
      by_cases c2 : errR (tkF (recs l).1 (tgV v)) (tkE (recs l).1 (tgV v)) = 0
      · rw [if_neg (by simp [c2])] at h ⊢
        by_cases c3 : chk v { evV v (recs l).1 with qty := qtyV v (recs l).1 } = 0
        · rw [if_neg (by simp [c3])]
          have hf := fine_of hl (by omega) (by omega) c1 c2
          have r := right_of c3
          refine ⟨r, ?_⟩
          have h7 := efs_encs r
          have h8 := efs_eq hf rfl r
          simp only at h7 ⊢
          rw [h8] at h7 ⊢
          rw [(recs_ok l hl c1).2.1] at h7
          exact (Prod.mk.inj h7).1.symm
        · rw [if_pos c3] at h; exact absurd h c3
      · rw [if_pos c2] at h; simp only at h; omega
    · rw [if_pos c1] at h; simp only at h; omega
/-- where there is an error there is no event -/
theorem sdec_err {v : Int} {l : List Nat} (h : (sdec v l).2 ≠ 0) : (sdec v l).1 = zeroE := by
  by_cases hv : v < 1 ∨ 5 < v
  · rw [show sdec v l = (zeroE, 30) from if_pos hv]
  · rw [show sdec v l = sdR v (evV v) (qtyV v) (tgV v) l from if_neg hv] at h ⊢
    unfold sdR at h ⊢
    split
    · rfl
    · rename_i c1
      rw [if_neg c1] at h
      split
      · rfl
      · rename_i c2
        rw [if_neg c2] at h
        split
        · rfl
        · rename_i c3
          rw [if_neg c3] at h
          exact absurd rfl h
end Go.Proofs.Ytfhcbdmmckjmaab
namespace Go.Proofs.Ytfhcbdmmckjmaab
open Go.ChangeShapes Go.WideShapes Go.ChangeAt Go.RowKit
set_option linter.unusedVariables false
theorem bel_drewN {B : Nat} {a w : World} (h : Below B a w) (n : Nat) : Below B a (w.drewN n) := by
  induction n with
  | zero => exact h
  | succ n ih => exact ih.drew
theorem same_yes (l : List Nat) (n1 n2 : Nat) (a1 a2 : Option Addr) (c1 c2 : Nat) (w : World) (e1 : l.length = n1) (e2 : l.length = n2) (hb1 : Bytes w a1 l) (hb2 : Bytes w a2 l) (hl : n1 ≤ maxLen) :
    Calls Try.prog 7 #[.slice a1 n1 c1, .slice a2 n2 c2] w fun e w' => e = .returned (.bool true) ∧ Below w.heap.size w w' := by
  refine (same_at l l n1 n2 a1 a2 c1 c2 w e1 e2 hb1 hb2 (by rw [e1]; exact hl) (by rw [e1]; exact hl)).mono ?_
  rw [decide_eq_true rfl]
  rintro e w' ⟨rfl, m, rfl⟩
  exact ⟨rfl, bel_drewN (Below.refl _ _) m⟩
theorem same_no (l m : List Nat) (n1 n2 : Nat) (a1 a2 : Option Addr) (c1 c2 : Nat) (w : World) (hne : l ≠ m) (e1 : l.length = n1) (e2 : m.length = n2) (hb1 : Bytes w a1 l) (hb2 : Bytes w a2 m) (hl : n1 ≤ maxLen) (hm : n2 ≤ maxLen) :
    Calls Try.prog 7 #[.slice a1 n1 c1, .slice a2 n2 c2] w fun e w' => e = .returned (.bool false) ∧ Below w.heap.size w w' := by
  refine (same_at l m n1 n2 a1 a2 c1 c2 w e1 e2 hb1 hb2 (by rw [e1]; exact hl) (by rw [e2]; exact hm)).mono ?_
  rw [decide_eq_false hne]
  rintro e w' ⟨rfl, m, rfl⟩
  exact ⟨rfl, bel_drewN (Below.refl _ _) m⟩
end Go.Proofs.Ytfhcbdmmckjmaab
