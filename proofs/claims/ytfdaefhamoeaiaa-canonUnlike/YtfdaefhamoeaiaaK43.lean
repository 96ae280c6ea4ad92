/- Own texts, joined: Sdb, Sdc, Cna. -/
import Derived.Test.YtfdaefhamoeaiaaK42
import Derived.Test.YtfdaefhamoeaiaaK41
namespace Go.Proofs.Ytfdaefhamoeaiaa
open Go.ChangeShapes Go.WideShapes Go.ChangeAt Go.RowKit
set_option linter.unusedVariables false
/-- how many tags a version has -/
def hasV (v : Int) : Int := if v ≤ 1 then 5 else if v ≤ 2 then 6 else if v ≤ 3 then 7 else if v ≤ 4 then 8 else 10
theorem tgV_mem {v : Int} (h1 : 1 ≤ v) (h5 : v ≤ 5) (t : Int) : (∃ x ∈ tgV v, t = x.1) ↔ 1 ≤ t ∧ t ≤ hasV v := by
  have hv : v = 1 ∨ v = 2 ∨ v = 3 ∨ v = 4 ∨ v = 5 := by omega
  rcases hv with rfl | rfl | rfl | rfl | rfl
  · show (∃ x ∈ tg1 ++ [(4, false)], t = x.1) ↔ 1 ≤ t ∧ t ≤ 5
    simp [tg1]; omega
  · show (∃ x ∈ tg2 ++ [(4, false)], t = x.1) ↔ 1 ≤ t ∧ t ≤ 6
    simp [tg2]; omega
  · show (∃ x ∈ tg3 ++ [(4, false)], t = x.1) ↔ 1 ≤ t ∧ t ≤ 7
    simp [tg3]; omega
  · show (∃ x ∈ tg4 ++ [(4, false)], t = x.1) ↔ 1 ≤ t ∧ t ≤ 8
    simp [tg4]; omega
  · show (∃ x ∈ tg5 ++ [(4, false)], t = x.1) ↔ 1 ≤ t ∧ t ≤ 10
    simp [tg5]; omega
/-- the tags of texts -/
def isT (t : Int) : Bool := decide (t = 8 ∨ t = 10)
theorem tgV_text {v : Int} (h1 : 1 ≤ v) (h5 : v ≤ 5) : ∀ x ∈ tgV v, x.2 = isT x.1 := by
  have hv : v = 1 ∨ v = 2 ∨ v = 3 ∨ v = 4 ∨ v = 5 := by omega
  rcases hv with rfl | rfl | rfl | rfl | rfl <;> decide
theorem tgV_apart {v : Int} (h1 : 1 ≤ v) (h5 : v ≤ 5) : (tgV v).Pairwise (fun x y => x.1 ≠ y.1) := by
  have hv : v = 1 ∨ v = 2 ∨ v = 3 ∨ v = 4 ∨ v = 5 := by omega
  rcases hv with rfl | rfl | rfl | rfl | rfl <;> decide
theorem capN_nat {x : Int} (h0 : 0 ≤ x) (h1 : x ≤ 1099511627776) : capN x.toNat = x := by
  unfold capN
  rw [if_pos (by omega)]; omega
theorem num_at {v : Int} {E : Ev} (r : Right v E) {t : Int} {n : Nat} (h : getF (evF v E) t = some ⟨t, false, n, []⟩) : numF (efs v E) t = n := by
  unfold numF efs
  rw [getF_filter nz _ t r.ris.pw.1, h]
  show (match (if nz ⟨t, false, n, []⟩ = true then some (⟨t, false, n, []⟩ : Fld) else none) with | some f => if f.text = false then f.num else 0 | none => 0) = n
  by_cases hn : n = 0
  · subst hn; rfl
  · rw [if_pos (by simp [nz, hn])]; rfl
theorem txt_at {v : Int} {E : Ev} (r : Right v E) {t : Int} {l : List Nat} (h : getF (evF v E) t = some ⟨t, true, 0, l⟩) : txtF (efs v E) t = l := by
  unfold txtF efs
  rw [getF_filter nz _ t r.ris.pw.1, h]
  show (match (if nz ⟨t, true, 0, l⟩ = true then some (⟨t, true, 0, l⟩ : Fld) else none) with | some f => if f.text = true then f.bytes else [] | none => []) = l
  cases l with
  | nil => rfl
  | cons x s => rfl
theorem evF_text {v : Int} {E : Ev} : ∀ f ∈ evF v E, f.text = isT f.tag ∧ norm f = f ∧ 1 ≤ f.tag ∧ f.tag ≤ 10 := by
  intro f hf
  simp only [evF, tenF, List.mem_cons, List.not_mem_nil, or_false] at hf
  rcases hf with rfl | rfl | rfl | rfl | rfl | rfl | rfl | rfl | rfl | rfl
  all_goals exact ⟨rfl, rfl, by simp, by simp⟩
/-- a version writes its own tags alone -/
theorem efs_tags {v : Int} {E : Ev} (r : Right v E) : ∀ f ∈ efs v E, 1 ≤ f.tag ∧ f.tag ≤ hasV v := by
  intro f hf
  obtain ⟨h1, h2⟩ := List.mem_filter.1 hf
  have h3 := (evF_text f h1).2.2
  refine ⟨h3.1, ?_⟩
  have o1 := r.own1
  have o2 := r.own2
  have o3 := r.own3
  have o4 := r.own4
  rw [nilB_iff] at o3 o4
  simp only [evF, tenF, List.mem_cons, List.not_mem_nil, or_false] at h1
  unfold hasV
  rcases h1 with rfl | rfl | rfl | rfl | rfl | rfl | rfl | rfl | rfl | rfl
  · show (1 : Int) ≤ _; repeat' split <;> omega
  · show (2 : Int) ≤ _; repeat' split <;> omega
  · show (3 : Int) ≤ _; repeat' split <;> omega
  · show (4 : Int) ≤ _; repeat' split <;> omega
  · show (5 : Int) ≤ _; repeat' split <;> omega
  · show (6 : Int) ≤ _
    rcases o1 with o | o
    · rw [if_neg (by omega)]; repeat' split <;> omega
    · simp [nz, o] at h2
  · show (7 : Int) ≤ _
    rcases o2 with o | o
    · rw [if_neg (by omega), if_neg (by omega)]; repeat' split <;> omega
    · simp [nz, o] at h2
  · show (8 : Int) ≤ _
    rcases o3 with o | o
    · rw [if_neg (by omega), if_neg (by omega), if_neg (by omega)]; repeat' split <;> omega
    · simp [nz, o] at h2
  · show (9 : Int) ≤ _
    rcases o4 with o | o
    · rw [if_neg (by omega), if_neg (by omega), if_neg (by omega), if_neg (by omega)]; omega
    · simp [nz, o.1] at h2
  · show (10 : Int) ≤ _
    rcases o4 with o | o
    · rw [if_neg (by omega), if_neg (by omega), if_neg (by omega), if_neg (by omega)]; omega
    · simp [nz, o.2] at h2
theorem efs_recs {v : Int} {E : Ev} (r : Right v E) : recs (ones (efs v E)) = (efs v E, 0, 0) := by
  have h := recs_back (efs v E) (ones (efs v E)) (fun f hf => (r.flds f (List.mem_filter.1 hf).1).1) (efs_encs r)
  rw [h]
  have : (efs v E).map norm = efs v E := by
    conv => rhs; rw [← List.map_id (efs v E)]
    exact List.map_congr_left (fun f hf => (evF_text f (List.mem_filter.1 hf).1).2.1)
  rw [this]
theorem nil_of_nums {s : ByteArray} (h : nums8 s = []) : s = ⟨#[]⟩ := by rw [← str8_nums8 s, h]; rfl
/-- what the version takes of a record of its own is the event -/
theorem ev_back {v : Int} {E : Ev} (r : Right v E) : ({ evV v (efs v E) with qty := qtyV v (efs v E) } : Ev) = E := by
  have hk : lastK v ≤ 10 := by unfold lastK; repeat' split <;> omega
  have hp : hiP v ≤ 100000000 := by unfold hiP; split <;> omega
  have n1 : numF (efs v E) 1 = E.kind.toNat := num_at r rfl
  have n2 : numF (efs v E) 2 = E.order.toNat := num_at r rfl
  have n3 : numF (efs v E) 3 = E.item.toNat := num_at r rfl
  have n4 : numF (efs v E) 4 = qN v E := num_at r rfl
  have n5 : numF (efs v E) 5 = E.price.toNat := num_at r rfl
  have n6 : numF (efs v E) 6 = E.cur.toNat := num_at r rfl
  have n7 : numF (efs v E) 7 = E.tax.toNat := num_at r rfl
  have n8 : txtF (efs v E) 8 = nums8 E.who := txt_at r rfl
  have n9 : numF (efs v E) 9 = E.stamp.toNat := num_at r rfl
  have n10 : txtF (efs v E) 10 = nums8 E.note := txt_at r rfl
  have q : qtyV v (efs v E) = E.qty := by
    unfold qtyV
    rw [n4]
    unfold qN
    by_cases h2 : v ≤ 2
    · rw [if_pos h2, if_pos h2, nat_of (zig_nn _), zag_zig]
    · rw [if_neg h2, if_neg h2]
      have := r.qty0
      have := r.qty1
      have : loQ v = 0 := if_neg h2
      exact capN_nat (by omega) (by omega)
  have e1 : capN E.kind.toNat = E.kind := capN_nat (by have := r.kind0; omega) (by have := r.kind1; omega)
  have e2 : capN E.order.toNat = E.order := capN_nat (by have := r.order0; omega) r.order1
  have e3 : capN E.item.toNat = E.item := capN_nat r.item0 (by have := r.item1; omega)
  have e5 : capN E.price.toNat = E.price := capN_nat r.price0 (by have := r.price1; omega)
  have e6 : capN E.cur.toNat = E.cur := capN_nat r.cur0 (by have := r.cur1; omega)
  have e7 : capN E.tax.toNat = E.tax := capN_nat r.tax0 (by have := r.tax1; omega)
  have e9 : capN E.stamp.toNat = E.stamp := capN_nat r.stamp0 r.stamp1
  have o1 := r.own1
  have o2 := r.own2
  have o3 := r.own3
  have o4 := r.own4
  rw [nilB_iff] at o3 o4
  have hv : v = 1 ∨ v = 2 ∨ v = 3 ∨ v = 4 ∨ v = 5 := by have := r.v1; have := r.v5; omega
  rw [q]
  clear q n4 r hk hp
  generalize efs v E = fs at n1 n2 n3 n5 n6 n7 n8 n9 n10 ⊢
  obtain ⟨kind, order, item, qty, price, cur, tax, who, stamp, note⟩ := E
  simp only at e1 e2 e3 e5 e6 e7 e9 n1 n2 n3 n5 n6 n7 n8 n9 n10 o1 o2 o3 o4
  have z1 : v ≤ 1 → cur = 0 := fun h => by omega
  have z2 : v ≤ 2 → tax = 0 := fun h => by omega
  have z3 : v ≤ 3 → who = ⟨#[]⟩ := fun h => nil_of_nums (by rcases o3 with o | o; omega; exact o)
  have z4 : v ≤ 4 → stamp = 0 ∧ note = ⟨#[]⟩ := fun h => by
    rcases o4 with o | o
    · omega
    · exact ⟨o.1, nil_of_nums o.2⟩
  rcases hv with rfl | rfl | rfl | rfl | rfl
  · show ({ ev1 _ with qty := qty } : Ev) = _
    simp only [ev1, n1, n2, n3, n5, e1, e2, e3, e5, z1 (by decide), z2 (by decide), z3 (by decide), (z4 (by decide)).1, (z4 (by decide)).2]
  · show ({ ev2 _ with qty := qty } : Ev) = _
    simp only [ev1, ev2, n1, n2, n3, n5, n6, e1, e2, e3, e5, e6, z2 (by decide), z3 (by decide), (z4 (by decide)).1, (z4 (by decide)).2]
  · show ({ ev3 _ with qty := qty } : Ev) = _
    simp only [ev1, ev2, ev3, n1, n2, n3, n5, n6, n7, e1, e2, e3, e5, e6, e7, z3 (by decide), (z4 (by decide)).1, (z4 (by decide)).2]
  · show ({ ev4 _ with qty := qty } : Ev) = _
    simp only [ev1, ev2, ev3, ev4, n1, n2, n3, n5, n6, n7, n8, e1, e2, e3, e5, e6, e7, str8_nums8, (z4 (by decide)).1, (z4 (by decide)).2]
  · show ({ ev5 _ with qty := qty } : Ev) = _
    simp only [ev1, ev2, ev3, ev4, ev5, n1, n2, n3, n5, n6, n7, n8, n9, n10, e1, e2, e3, e5, e6, e7, e9, str8_nums8]
theorem sdec_back {v : Int} {E : Ev} (r : Right v E) : sdec v (ones (efs v E)) = (E, 0) := by
  have h1 := r.v1
  have h5 := r.v5
  have hrec := efs_recs r
  have herr : errR (tkF (efs v E) (tgV v)) (tkE (efs v E) (tgV v)) = 0 := by
    refine errR_zero.2 ⟨tk_zero _ _ (fun x hx f hf => ?_), fun f hf => ?_⟩
    · obtain ⟨m1, m2⟩ := getF_mem hf
      rw [(evF_text f (List.mem_filter.1 m1).1).1, m2, tgV_text h1 h5 x hx]
    · exact (tgV_mem h1 h5 f.tag).2 (efs_tags r f hf)
  rw [show sdec v (ones (efs v E)) = sdR v (evV v) (qtyV v) (tgV v) (ones (efs v E)) from if_neg (by omega)]
  unfold sdR
  rw [hrec]
  simp only [herr, ev_back r, chk_of r]
  rfl
end Go.Proofs.Ytfdaefhamoeaiaa
namespace Go.Proofs.Ytfdaefhamoeaiaa
open Go.ChangeShapes Go.WideShapes Go.ChangeAt Go.RowKit
set_option linter.unusedVariables false
theorem capN_inv {u : Nat} {x : Int} (h : x = capN u) (h1 : x ≤ 1099511627776) : x.toNat = u := by
  unfold capN at h
  split at h <;> omega
/-- fields that were read: rising, each right -/
structure Fine (v : Int) (fs : List Fld) : Prop where
  rise : fs.Pairwise (fun f g => f.tag < g.tag)
  right : ∀ f ∈ fs, FRight f ∧ flt f 0 = 0
  tags : ∀ f ∈ fs, 1 ≤ f.tag ∧ f.tag ≤ hasV v
  forms : ∀ f ∈ fs, f.text = isT f.tag
theorem hasV_le (v : Int) : hasV v ≤ 10 := by unfold hasV; repeat' split <;> omega
theorem Fine.nzf {v : Int} {fs : List Fld} (h : Fine v fs) : ∀ f ∈ fs, nz f = true := by
  intro f hf
  have h1 := h.tags f hf
  have h2 := hasV_le v
  obtain ⟨⟨_, hb, _, _⟩, hz⟩ := h.right f hf
  have h3 := flt_nz (F := f) (A := 0) (by omega) h1.1 (by omega) (fun _ => hb)
  rw [hz] at h3
  by_cases hn : nz f = true
  · exact hn
  · rw [if_neg hn] at h3; cases h3
theorem Fine.num {v : Int} {fs : List Fld} (h : Fine v fs) {t : Int} (ht : isT t = false) : getF fs t = if numF fs t = 0 then none else some ⟨t, false, numF fs t, []⟩ := by
  unfold numF
  rcases hg : getF fs t with _ | f
  · rfl
  · obtain ⟨m1, m2⟩ := getF_mem hg
    have hx := h.forms f m1
    rw [m2, ht] at hx
    obtain ⟨⟨_, _, hn, _⟩, hf⟩ := h.right f m1
    have hnz : f.num ≠ 0 := by
      intro e
      have h9 := h.nzf f m1
      unfold nz at h9
      rw [if_neg (by rw [hx]; simp), e] at h9
      cases h9
    have hb : f.bytes = [] := by
      have h9 : norm f = { f with bytes := [] } := by unfold norm; rw [if_neg (by rw [hx]; simp)]
      rw [h9] at hn
      exact (congrArg Fld.bytes hn).symm
    simp only [hx, if_true]
    rw [if_neg hnz]
    obtain ⟨a, b, c, d⟩ := f
    simp only at m2 hx hb
    rw [m2, hx, hb]
theorem Fine.txt {v : Int} {fs : List Fld} (h : Fine v fs) {t : Int} (ht : isT t = true) : getF fs t = if txtF fs t = [] then none else some ⟨t, true, 0, txtF fs t⟩ := by
  unfold txtF
  rcases hg : getF fs t with _ | f
  · rfl
  · obtain ⟨m1, m2⟩ := getF_mem hg
    have hx := h.forms f m1
    rw [m2, ht] at hx
    obtain ⟨⟨_, _, hn, _⟩, hf⟩ := h.right f m1
    have hnz : f.bytes ≠ [] := by
      intro e
      have h9 := h.nzf f m1
      unfold nz at h9
      rw [if_pos hx, e] at h9
      cases h9
    have hb : f.num = 0 := by
      have h9 : norm f = { f with num := 0 } := by unfold norm; rw [if_pos hx]
      rw [h9] at hn
      exact (congrArg Fld.num hn).symm
    simp only [hx, if_true]
    rw [if_neg hnz]
    obtain ⟨a, b, c, d⟩ := f
    simp only at m2 hx hb
    rw [m2, hx, hb]
theorem Fine.off {v : Int} {fs : List Fld} (h : Fine v fs) {t : Int} (ht : hasV v < t) : numF fs t = 0 ∧ txtF fs t = [] := by
  have hg : getF fs t = none := getF_none.2 (fun f hf e => by have := (h.tags f hf).2; omega)
  unfold numF txtF
  rw [hg]
  exact ⟨rfl, rfl⟩
theorem nz_num (t : Int) (n : Nat) : (some (⟨t, false, n, []⟩ : Fld)).bind (fun f => if nz f = true then some f else none) = if n = 0 then none else some ⟨t, false, n, []⟩ := by
  show (if nz ⟨t, false, n, []⟩ = true then some (⟨t, false, n, []⟩ : Fld) else none) = _
  by_cases hn : n = 0
  · subst hn; rfl
  · rw [if_pos (by simp [nz, hn]), if_neg hn]
theorem nz_txt (t : Int) (l : List Nat) : (some (⟨t, true, 0, l⟩ : Fld)).bind (fun f => if nz f = true then some f else none) = if l = [] then none else some ⟨t, true, 0, l⟩ := by
  show (if nz ⟨t, true, 0, l⟩ = true then some (⟨t, true, 0, l⟩ : Fld) else none) = _
  cases l with
  | nil => rfl
  | cons x s => rw [if_pos (show nz ⟨t, true, 0, x :: s⟩ = true from rfl), if_neg (List.cons_ne_nil x s)]
/-- what the version took, back as it was written -/
theorem took {v : Int} {fs : List Fld} (h : Fine v fs) {E : Ev} (hE : ({ evV v fs with qty := qtyV v fs } : Ev) = E) (r : Right v E) : E.kind.toNat = numF fs 1 ∧ E.order.toNat = numF fs 2 ∧ E.item.toNat = numF fs 3 ∧ qN v E = numF fs 4 ∧ E.price.toNat = numF fs 5 ∧ E.cur.toNat = numF fs 6 ∧ E.tax.toNat = numF fs 7 ∧ nums8 E.who = txtF fs 8 ∧ E.stamp.toNat = numF fs 9 ∧ nums8 E.note = txtF fs 10 := by
  have hk : lastK v ≤ 10 := by unfold lastK; repeat' split <;> omega
  have hp : hiP v ≤ 100000000 := by unfold hiP; split <;> omega
  have h8 := (txtF_lt (fun f hf => (h.right f hf).1) 8).1
  have h10 := (txtF_lt (fun f hf => (h.right f hf).1) 10).1
  have bk := r.kind1
  have bo := r.order1
  have bi := r.item1
  have bp := r.price1
  have bc := r.cur1
  have bt := r.tax1
  have bs := r.stamp1
  have bq := r.qty1
  have bq0 := r.qty0
  have off := fun t ht => h.off (t := t) ht
  have hq : E.qty = qtyV v fs := by rw [← hE]
  have q4 : qN v E = numF fs 4 := by
    unfold qN
    rw [hq]
    unfold qtyV
    by_cases h2 : v ≤ 2
    · rw [if_pos h2, if_pos h2, zig_zag _ (by omega)]; omega
    · rw [if_neg h2, if_neg h2]
      refine capN_inv rfl ?_
      have : qtyV v fs = capN (numF fs 4) := if_neg h2
      rw [hq, this] at bq
      omega
  have hv : v = 1 ∨ v = 2 ∨ v = 3 ∨ v = 4 ∨ v = 5 := by have := r.v1; have := r.v5; omega
  clear r hq bq bq0
  refine ⟨?_, ?_, ?_, q4, ?_, ?_, ?_, ?_, ?_, ?_⟩
  all_goals clear q4
  · refine capN_inv ?_ (by omega); rw [← hE]; rcases hv with rfl | rfl | rfl | rfl | rfl <;> rfl
  · refine capN_inv ?_ (by omega); rw [← hE]; rcases hv with rfl | rfl | rfl | rfl | rfl <;> rfl
  · refine capN_inv ?_ (by omega); rw [← hE]; rcases hv with rfl | rfl | rfl | rfl | rfl <;> rfl
  · refine capN_inv ?_ (by omega); rw [← hE]; rcases hv with rfl | rfl | rfl | rfl | rfl <;> rfl
  · by_cases h1 : v ≤ 1
    · have : v = 1 := by omega
      subst this
      rw [(off 6 (by decide)).1, ← hE]; rfl
    · refine capN_inv ?_ (by omega); rw [← hE]; rcases hv with rfl | rfl | rfl | rfl | rfl
      · omega
      all_goals rfl
  · by_cases h1 : v ≤ 2
    · rcases hv with rfl | rfl | rfl | rfl | rfl
      · rw [(off 7 (by decide)).1, ← hE]; rfl
      · rw [(off 7 (by decide)).1, ← hE]; rfl
      all_goals omega
    · refine capN_inv ?_ (by omega); rw [← hE]; rcases hv with rfl | rfl | rfl | rfl | rfl
      · omega
      · omega
      all_goals rfl
  · by_cases h1 : v ≤ 3
    · rcases hv with rfl | rfl | rfl | rfl | rfl
      · rw [(off 8 (by decide)).2, ← hE]; rfl
      · rw [(off 8 (by decide)).2, ← hE]; rfl
      · rw [(off 8 (by decide)).2, ← hE]; rfl
      all_goals omega
    · have : E.who = str8 (txtF fs 8) := by
        rw [← hE]; rcases hv with rfl | rfl | rfl | rfl | rfl
        · omega
        · omega
        · omega
        all_goals rfl
      rw [this, nums8_str8 _ h8]
  · by_cases h1 : v ≤ 4
    · rcases hv with rfl | rfl | rfl | rfl | rfl
      · rw [(off 9 (by decide)).1, ← hE]; rfl
      · rw [(off 9 (by decide)).1, ← hE]; rfl
      · rw [(off 9 (by decide)).1, ← hE]; rfl
      · rw [(off 9 (by decide)).1, ← hE]; rfl
      · omega
    · have : v = 5 := by omega
      subst this
      refine capN_inv ?_ (by omega); rw [← hE]; rfl
  · by_cases h1 : v ≤ 4
    · rcases hv with rfl | rfl | rfl | rfl | rfl
      · rw [(off 10 (by decide)).2, ← hE]; rfl
      · rw [(off 10 (by decide)).2, ← hE]; rfl
      · rw [(off 10 (by decide)).2, ← hE]; rfl
      · rw [(off 10 (by decide)).2, ← hE]; rfl
      · omega
    · have : v = 5 := by omega
      subst this
      have : E.note = str8 (txtF fs 10) := by rw [← hE]; rfl
      rw [this, nums8_str8 _ h10]
theorem efs_eq {v : Int} {fs : List Fld} (h : Fine v fs) {E : Ev} (hE : ({ evV v fs with qty := qtyV v fs } : Ev) = E) (r : Right v E) : efs v E = fs := by
  obtain ⟨t1, t2, t3, t4, t5, t6, t7, t8, t9, t10⟩ := took h hE r
  have hpw := r.ris.pw.1
  have hh := hasV_le v
  refine rise_ext _ _ (hpw.filter _) h.rise (fun t => ?_)
  by_cases ht : 1 ≤ t ∧ t ≤ 10
  · show getF ((evF v E).filter nz) t = _
    rw [getF_filter nz _ t hpw]
    have hv : t = 1 ∨ t = 2 ∨ t = 3 ∨ t = 4 ∨ t = 5 ∨ t = 6 ∨ t = 7 ∨ t = 8 ∨ t = 9 ∨ t = 10 := by omega
    rcases hv with rfl | rfl | rfl | rfl | rfl | rfl | rfl | rfl | rfl | rfl
    · rw [show getF (evF v E) 1 = some ⟨1, false, E.kind.toNat, []⟩ from rfl, nz_num, t1, h.num rfl]
    · rw [show getF (evF v E) 2 = some ⟨2, false, E.order.toNat, []⟩ from rfl, nz_num, t2, h.num rfl]
    · rw [show getF (evF v E) 3 = some ⟨3, false, E.item.toNat, []⟩ from rfl, nz_num, t3, h.num rfl]
    · rw [show getF (evF v E) 4 = some ⟨4, false, qN v E, []⟩ from rfl, nz_num, t4, h.num rfl]
    · rw [show getF (evF v E) 5 = some ⟨5, false, E.price.toNat, []⟩ from rfl, nz_num, t5, h.num rfl]
    · rw [show getF (evF v E) 6 = some ⟨6, false, E.cur.toNat, []⟩ from rfl, nz_num, t6, h.num rfl]
    · rw [show getF (evF v E) 7 = some ⟨7, false, E.tax.toNat, []⟩ from rfl, nz_num, t7, h.num rfl]
    · rw [show getF (evF v E) 8 = some ⟨8, true, 0, nums8 E.who⟩ from rfl, nz_txt, t8, h.txt rfl]
    · rw [show getF (evF v E) 9 = some ⟨9, false, E.stamp.toNat, []⟩ from rfl, nz_num, t9, h.num rfl]
    · rw [show getF (evF v E) 10 = some ⟨10, true, 0, nums8 E.note⟩ from rfl, nz_txt, t10, h.txt rfl]
  · rw [getF_none.2 (fun f hf e => ?_), getF_none.2 (fun f hf e => ?_)]
    · have := h.tags f hf; omega
    · have := (evF_text f (List.mem_filter.1 hf).1).2.2; omega
theorem fine_of {v : Int} {l : List Nat} (hl : ∀ x ∈ l, x < 256) (h1 : 1 ≤ v) (h5 : v ≤ 5) (h : (recs l).2.2 = 0) (he : errR (tkF (recs l).1 (tgV v)) (tkE (recs l).1 (tgV v)) = 0) : Fine v (recs l).1 := by
  obtain ⟨_, r2, r3, _⟩ := recs_ok l hl h
  obtain ⟨r5, r6⟩ := encs_rise _ _ _ _ r2
  obtain ⟨e1, e2⟩ := errR_zero.1 he
  refine ⟨r5, fun f hf => ⟨r3 f hf, (r6 f hf).2.2.2⟩, fun f hf => (tgV_mem h1 h5 f.tag).1 (e2 f hf), fun f hf => ?_⟩
  obtain ⟨x, hx, hfx⟩ := e2 f hf
  rw [hfx, ← tgV_text h1 h5 x hx]
  exact tk_right (tgV v) _ (tgV_apart h1 h5) e1 x hx f (by rw [← hfx]; exact getF_of_mem r5 hf)
/-- what schema.Decode reads is a right event, and its record is what was read -/
theorem sdec_form {v : Int} {l : List Nat} (hl : ∀ x ∈ l, x < 256) (h : (sdec v l).2 = 0) : Right v (sdec v l).1 ∧ ones (efs v (sdec v l).1) = l := by
  by_cases hv : v < 1 ∨ 5 < v
  · rw [show sdec v l = (zeroE, 30) from if_pos hv] at h; cases h
  · rw [show sdec v l = sdR v (evV v) (qtyV v) (tgV v) l from if_neg hv] at h ⊢
    unfold sdR at h ⊢
    by_cases c1 : (recs l).2.2 = 0
    · rw [if_neg (by simp [c1])] at h ⊢
      by_cases c2 : errR (tkF (recs l).1 (tgV v)) (tkE (recs l).1 (tgV v)) = 0
      · rw [if_neg (by simp [c2])] at h ⊢
        by_cases c3 : chk v { evV v (recs l).1 with qty := qtyV v (recs l).1 } = 0
        · rw [if_neg (by simp [c3])]
          have hf := fine_of hl (by omega) (by omega) c1 c2
          have r := right_of c3
          refine ⟨r, ?_⟩
          have h7 := efs_encs r
          have h8 := efs_eq hf rfl r
          simp only at h7 ⊢
          rw [h8] at h7 ⊢
          rw [(recs_ok l hl c1).2.1] at h7
          exact (Prod.mk.inj h7).1.symm
        · rw [if_pos c3] at h; exact absurd h c3
      · rw [if_pos c2] at h; simp only at h; omega
    · rw [if_pos c1] at h; simp only at h; omega
/-- where there is an error there is no event -/
theorem sdec_err {v : Int} {l : List Nat} (h : (sdec v l).2 ≠ 0) : (sdec v l).1 = zeroE := by
  by_cases hv : v < 1 ∨ 5 < v
  · rw [show sdec v l = (zeroE, 30) from if_pos hv]
  · rw [show sdec v l = sdR v (evV v) (qtyV v) (tgV v) l from if_neg hv] at h ⊢
    unfold sdR at h ⊢
    split
    · rfl
    · rename_i c1
      rw [if_neg c1] at h
      split
      · rfl
      · rename_i c2
        rw [if_neg c2] at h
        split
        · rfl
        · rename_i c3
          rw [if_neg c3] at h
          exact absurd rfl h
end Go.Proofs.Ytfdaefhamoeaiaa
namespace Go.Proofs.Ytfdaefhamoeaiaa
open Go.ChangeShapes Go.WideShapes Go.ChangeAt Go.RowKit
set_option linter.unusedVariables false
theorem dec_encC {u : Nat} (r : List Nat) (h : u < 18446744073709551616) : dec 0 0 (enc u ++ r) = (u, (enc u).length, 0) := by
  have h := dec_enc 9 0 0 u r rfl (by decide) (by simpa using h) (by omega)
  simpa [enc] using h
theorem capN_natC {x : Int} (h0 : 0 ≤ x) (h1 : x ≤ 4611686018427387904) : capN x.toNat = x := by
  unfold capN
  rw [if_pos (by omega)]; omega
theorem capN_invC {u : Nat} {x : Int} (h : x = capN u) (h1 : x < 4611686018427387904) : x.toNat = u := by
  unfold capN at h
  split at h <;> omega
/-- a line within its bounds -/
abbrev LnOk (l : Ln) : Prop := 0 ≤ l.item ∧ l.item ≤ 65535 ∧ 0 ≤ l.price ∧ l.price ≤ 100000000 ∧ 1 ≤ l.qty ∧ l.qty ≤ 100000 ∧ 0 ≤ l.shipped ∧ l.shipped ≤ l.qty
theorem rdLn_back {l : Ln} (h : LnOk l) : rdLn (lnT l) = (l, true) := by
  obtain ⟨h1, h2, h3, h4, h5, h6, h7, h8⟩ := h
  unfold rdLn rdK lnT lnL
  rw [if_neg (by decide), if_neg (by decide), if_neg (by decide), if_neg (by decide)]
  unfold rdK4
  rw [dec_encC _ (by omega)]
  simp only [ne_eq, not_true_eq_false, if_false, List.drop_left]
  unfold rdK3
  rw [dec_encC _ (by omega)]
  simp only [ne_eq, not_true_eq_false, if_false, List.drop_left]
  unfold rdK2
  rw [dec_encC _ (by omega)]
  simp only [ne_eq, not_true_eq_false, if_false, List.drop_left]
  unfold rdK1
  have e4 := dec_encC (u := l.shipped.toNat) [] (by omega)
  rw [List.append_nil] at e4
  rw [e4]
  simp only [ne_eq, not_true_eq_false, if_false, List.drop_length]
  unfold rdK0
  rw [capN_natC h1 (by omega), capN_natC h3 (by omega), capN_natC (by omega) (by omega), capN_natC h7 (by omega)]
  rfl
theorem rdAll_back : ∀ (L : List Ln), (∀ l ∈ L, LnOk l) → rdAll (L.map lnT) = (L, true)
  | [], _ => rfl
  | l :: r, h => by
    have h1 := rdLn_back (h l (List.mem_cons_self ..))
    have h2 := rdAll_back r (fun x hx => h x (List.mem_cons_of_mem _ hx))
    simp only [List.map_cons, rdAll, h1, h2]
    rfl
theorem lnT_ne (l : Ln) (h : LnOk l) : lnT l ≠ [] := by
  intro h2
  have h1 := (enc_length_le l.item.toNat (by omega)).1
  have h3 : (lnT l).length = 0 := by rw [h2]; rfl
  unfold lnT lnL at h3
  simp only [List.length_append] at h3
  omega
theorem getF_lines : ∀ (L : List Ln) (j k : Nat), getF (lnFs j L) (12 + ((j + k : Nat) : Int)) = (L[k]?).map (fun l => (⟨12 + ((j + k : Nat) : Int), true, 0, lnT l⟩ : Fld))
  | [], j, k => by simp [lnFs, getF]
  | l :: r, j, 0 => by
    simp only [lnFs]
    rw [getF_cons, if_pos (by simp)]
    simp
  | l :: r, j, k + 1 => by
    simp only [lnFs]
    rw [getF_cons, if_neg (by show ¬ 12 + (j : Int) = _; omega)]
    have h := getF_lines r (j + 1) k
    rw [show j + 1 + k = j + (k + 1) from by omega] at h
    rw [h]
    simp
theorem getF_appendC {fs gs : List Fld} {t : Int} (h : ∀ f ∈ fs, f.tag ≠ t) : getF (fs ++ gs) t = getF gs t := by
  induction fs with
  | nil => rfl
  | cons f r ih =>
    rw [List.cons_append, getF_cons, if_neg (h f (List.mem_cons_self ..)), ih (fun g hg => h g (List.mem_cons_of_mem _ hg))]
theorem tenS_tags (s : St) : ∀ f ∈ tenS s.order.toNat s.status.toNat s.prior.toNat s.cur.toNat s.tax.toNat s.paid.toNat s.refunded.toNat s.events.toNat s.refused.toNat s.stamp.toNat s.who, 1 ≤ f.tag ∧ f.tag ≤ 11 := by
  intro f hf
  simp only [tenS, List.mem_cons, List.not_mem_nil, or_false] at hf
  rcases hf with rfl | rfl | rfl | rfl | rfl | rfl | rfl | rfl | rfl | rfl | rfl <;> exact ⟨by simp, by simp⟩
theorem getF_line (s : St) (k : Nat) : getF (stFs s) (12 + (k : Int)) = (s.lines[k]?).map (fun l => (⟨12 + (k : Int), true, 0, lnT l⟩ : Fld)) := by
  unfold stFs
  rw [getF_appendC (fun f hf => by have := tenS_tags s f hf; omega)]
  have h := getF_lines s.lines 0 k
  rw [Nat.zero_add] at h
  exact h
theorem stFs_pw {s : St} (v : VSt s) : (stFs s).Pairwise (fun f g => f.tag < g.tag) := v.ris.pw.1
theorem sfs_line {s : St} (v : VSt s) (k : Nat) : getF (sfs s) (12 + (k : Int)) = (s.lines[k]?).map (fun l => (⟨12 + (k : Int), true, 0, lnT l⟩ : Fld)) := by
  unfold sfs
  rw [getF_filter nz _ _ (stFs_pw v), getF_line]
  rcases hk : s.lines[k]? with _ | l
  · rfl
  · show (some _).bind _ = _
    rw [nz_txt, if_neg (lnT_ne l (v.each.2 l (List.mem_of_getElem? hk)))]
    rfl
theorem sfs_num {s : St} (v : VSt s) {t : Int} {n : Nat} (h : getF (stFs s) t = some ⟨t, false, n, []⟩) : getF (sfs s) t = (if n = 0 then none else some ⟨t, false, n, []⟩) ∧ numF (sfs s) t = n := by
  have e : getF (sfs s) t = if n = 0 then none else some ⟨t, false, n, []⟩ := by
    unfold sfs
    rw [getF_filter nz _ _ (stFs_pw v), h, nz_num]
  refine ⟨e, ?_⟩
  unfold numF
  rw [e]
  by_cases hn : n = 0
  · subst hn; rfl
  · rw [if_neg hn]; rfl
theorem sfs_txt {s : St} (v : VSt s) {t : Int} {l : List Nat} (h : getF (stFs s) t = some ⟨t, true, 0, l⟩) : getF (sfs s) t = (if l = [] then none else some ⟨t, true, 0, l⟩) ∧ txtF (sfs s) t = l := by
  have e : getF (sfs s) t = if l = [] then none else some ⟨t, true, 0, l⟩ := by
    unfold sfs
    rw [getF_filter nz _ _ (stFs_pw v), h, nz_txt]
  refine ⟨e, ?_⟩
  unfold txtF
  rw [e]
  by_cases hn : l = []
  · subst hn; rfl
  · rw [if_neg hn]; rfl
theorem sfs_txl {s : St} (v : VSt s) (k : Nat) : txtF (sfs s) (12 + (k : Int)) = ((s.lines[k]?).map lnT).getD [] := by
  unfold txtF
  rw [sfs_line v]
  rcases s.lines[k]? with _ | l <;> rfl
theorem txs_of {fs : List Fld} : ∀ (f k : Nat) (L : List Ln), (∀ j, txtF fs (12 + ((k + j : Nat) : Int)) = ((L[j]?).map lnT).getD []) → L.length ≤ f → (∀ l ∈ L, lnT l ≠ []) → txsFrom fs f k = L.map lnT
  | 0, k, L, _, h2, _ => by
    have : L = [] := List.length_eq_zero_iff.1 (by omega)
    subst this; rfl
  | f + 1, k, L, h1, h2, h3 => by
    have h0 := h1 0
    rw [Nat.add_zero] at h0
    simp only [txsFrom, h0]
    cases L with
    | nil => rfl
    | cons l r =>
      show (if lnT l = [] then [] else lnT l :: txsFrom fs f (k + 1)) = _
      rw [if_neg (h3 l (List.mem_cons_self ..)), txs_of f (k + 1) r (fun j => ?_) (by simpa using h2) (fun x hx => h3 x (List.mem_cons_of_mem _ hx))]
      · rfl
      · have := h1 (j + 1)
        rw [show k + (j + 1) = k + 1 + j from by omega] at this
        rw [this]; simp
/-- the tags that are asked for -/
theorem tgs_form {fs : List Fld} : ∀ (f k : Nat) (x : Int × Bool), x ∈ tgsFrom fs f k ↔ ∃ j, j < f ∧ x = (12 + ((k + j : Nat) : Int), true) ∧ ∀ i, i < j → txtF fs (12 + ((k + i : Nat) : Int)) ≠ []
  | 0, k, x => by simp [tgsFrom]
  | f + 1, k, x => by
    simp only [tgsFrom, List.mem_cons]
    constructor
    · rintro (rfl | h)
      · exact ⟨0, by omega, rfl, fun i hi => by omega⟩
      · split at h
        · cases h
        · rename_i hne
          obtain ⟨j, hj, rfl, hall⟩ := (tgs_form f (k + 1) x).1 h
          refine ⟨j + 1, by omega, by rw [show k + 1 + j = k + (j + 1) from by omega], fun i hi => ?_⟩
          cases i with
          | zero => exact hne
          | succ i =>
            have := hall i (by omega)
            rwa [show k + 1 + i = k + (i + 1) from by omega] at this
    · rintro ⟨j, hj, rfl, hall⟩
      cases j with
      | zero => exact .inl rfl
      | succ j =>
        right
        have h00 : txtF fs (12 + (k : Int)) ≠ [] := hall 0 (by omega)
        rw [if_neg h00]
        refine (tgs_form f (k + 1) _).2 ⟨j, by omega, by rw [show k + 1 + j = k + (j + 1) from by omega], fun i hi => ?_⟩
        have := hall (i + 1) (by omega)
        rwa [show k + (i + 1) = k + 1 + i from by omega] at this
theorem tg11_mem (t : Int) : (∃ x ∈ tg11, t = x.1) ↔ 1 ≤ t ∧ t ≤ 11 := by
  unfold tg11; simp; omega
theorem tg11_text : ∀ x ∈ tg11, x.2 = decide (11 ≤ x.1) ∧ 1 ≤ x.1 ∧ x.1 ≤ 11 := by decide
theorem stFs_form (s : St) : ∀ f ∈ stFs s, f.text = decide (11 ≤ f.tag) ∧ norm f = f ∧ 1 ≤ f.tag := by
  intro f hf
  simp only [stFs, tenS, List.cons_append, List.nil_append, List.mem_cons] at hf
  rcases hf with rfl | rfl | rfl | rfl | rfl | rfl | rfl | rfl | rfl | rfl | rfl | hf
  all_goals try (exact ⟨rfl, rfl, by simp⟩)
  obtain ⟨j, l, hl1, hj, rfl⟩ := mem_lnFs _ _ _ hf
  exact ⟨by show true = decide (11 ≤ 12 + ((0 + j : Nat) : Int)); rw [decide_eq_true (by omega)], rfl, by show 1 ≤ 12 + ((0 + j : Nat) : Int); omega⟩
theorem sfs_err {s : St} (v : VSt s) : errR (tkF (sfs s) (ctg (sfs s))) (tkE (sfs s) (ctg (sfs s))) = 0 := by
  refine errR_zero.2 ⟨?_, ?_⟩
  · refine tk_zero (ctg (sfs s)) (sfs s) (fun x hx f hf => ?_)
    obtain ⟨m1, m2⟩ := getF_mem hf
    have h1 := (stFs_form s f (List.mem_filter.1 m1).1).1
    rw [h1, m2]
    rcases List.mem_append.1 hx with h | h
    · exact (tg11_text x h).1.symm
    · obtain ⟨j, _, rfl, _⟩ := (tgs_form 16 0 x).1 h
      show decide (11 ≤ 12 + ((0 + j : Nat) : Int)) = true
      exact decide_eq_true (by omega)
  · intro f hf
    have hm := (List.mem_filter.1 hf).1
    simp only [stFs, List.mem_append] at hm
    rcases hm with h | h
    · obtain ⟨x, hx, e⟩ := (tg11_mem f.tag).2 (tenS_tags s f h)
      exact ⟨x, List.mem_append_left _ hx, e⟩
    · obtain ⟨j, l, hl1, hj, rfl⟩ := mem_lnFs _ _ _ h
      have h16 := v.each.1
      refine ⟨_, List.mem_append_right _ ((tgs_form 16 0 (12 + ((0 + j : Nat) : Int), true)).2 ⟨j, by omega, rfl, fun i hi => ?_⟩), rfl⟩
      rw [Nat.zero_add, sfs_txl v]
      obtain ⟨p, hp⟩ := ln_get (L := s.lines) (k := i) (by omega)
      rw [hp]
      exact lnT_ne p (v.each.2 p (List.mem_of_getElem? hp))
/-- written and read -/
theorem cdec_back {s : St} (hv : vldB s = true) : cdec (ones (sfs s)) = (s, 0) := by
  have v := vst_of hv
  have hr : recs (ones (sfs s)) = (sfs s, 0, 0) := by
    have h := recs_back (sfs s) (ones (sfs s)) (fun f hf => (v.flds f (List.mem_filter.1 hf).1).1) (sfs_encs v)
    rw [h]
    have : (sfs s).map norm = sfs s := by
      conv => rhs; rw [← List.map_id (sfs s)]
      exact List.map_congr_left (fun f hf => (stFs_form s f (List.mem_filter.1 hf).1).2.1)
    rw [this]
  have ht : txsFrom (sfs s) 16 0 = s.lines.map lnT := txs_of 16 0 s.lines (fun j => by rw [Nat.zero_add]; exact sfs_txl v j) v.each.1 (fun l hl => lnT_ne l (v.each.2 l hl))
  have ha : rdAll (txsFrom (sfs s) 16 0) = (s.lines, true) := by rw [ht]; exact rdAll_back _ v.each.2
  have hS : stL (sfs s) = s := by
    unfold stL stOf
    rw [ha]
    have n1 := (sfs_num v (t := 1) (n := s.order.toNat) rfl).2
    have n2 := (sfs_num v (t := 2) (n := s.status.toNat) rfl).2
    have n3 := (sfs_num v (t := 3) (n := s.prior.toNat) rfl).2
    have n4 := (sfs_num v (t := 4) (n := s.cur.toNat) rfl).2
    have n5 := (sfs_num v (t := 5) (n := s.tax.toNat) rfl).2
    have n6 := (sfs_num v (t := 6) (n := s.paid.toNat) rfl).2
    have n7 := (sfs_num v (t := 7) (n := s.refunded.toNat) rfl).2
    have n8 := (sfs_num v (t := 8) (n := s.events.toNat) rfl).2
    have n9 := (sfs_num v (t := 9) (n := s.refused.toNat) rfl).2
    have n10 := (sfs_num v (t := 10) (n := s.stamp.toNat) rfl).2
    have n11 := (sfs_txt v (t := 11) (l := nums8 s.who) rfl).2
    rw [n1, n2, n3, n4, n5, n6, n7, n8, n9, n10, n11, str8_nums8]
    obtain ⟨a1, a2, b1, b2, c1, c2, d1, d2, e1, e2, p1, p2, r1, r2, ev1, ev2, f1, f2, g1, g2, hw, hl⟩ := v
    rw [capN_natC (by omega) (by omega), capN_natC (by omega) (by omega), capN_natC (by omega) (by omega), capN_natC (by omega) (by omega), capN_natC (by omega) (by omega), capN_natC (by omega) (by omega), capN_natC (by omega) (by omega), capN_natC (by omega) (by omega), capN_natC (by omega) (by omega), capN_natC (by omega) (by omega)]
  unfold cdec
  rw [hr]
  simp only [ne_eq, not_true_eq_false, if_false]
  rw [sfs_err v]
  simp only [not_true_eq_false, if_false]
  rw [ha, hS, if_pos ⟨rfl, hv⟩]
end Go.Proofs.Ytfdaefhamoeaiaa
