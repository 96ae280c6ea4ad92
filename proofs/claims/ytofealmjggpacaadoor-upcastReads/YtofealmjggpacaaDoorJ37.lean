/- Own texts, joined: Sda, Sdb. -/
import Derived.Test.YtofealmjggpacaaDoorJ18
namespace Go.Proofs.YtofealmjggpacaaDoor
open Go.ChangeShapes Go.WideShapes Go.ChangeAt Go.RowKit
set_option linter.unusedVariables false
theorem nilB_iff (s : ByteArray) : nilB s = true ↔ nums8 s = [] := by
  have h : s.toList = (nums8 s).map fun n => UInt8.ofNat n := by
    conv => lhs; rw [← str8_nums8 s]
    unfold str8
    rw [Lib.strOfNums_toList]
    unfold Lib.bytesOf
    rw [List.map_map]
    exact List.map_congr_left (fun x _ => by simp)
  unfold nilB
  rw [h]
  cases nums8 s <;> simp
theorem zag_zig (x : Int) : zag (zig x) = x := by
  unfold zag zig
  split <;> split <;> omega
theorem zig_zag (u : Int) (h : 0 ≤ u) : zig (zag u) = u := by
  unfold zag zig
  split <;> split <;> omega
/-- two lists of rising tags that have the same field at each tag are one -/
theorem getF_mem {fs : List Fld} {t : Int} {f : Fld} (h : getF fs t = some f) : f ∈ fs ∧ f.tag = t := by
  unfold getF at h
  exact ⟨List.mem_of_find?_eq_some h, by simpa using List.find?_some h⟩
theorem getF_none {fs : List Fld} {t : Int} : getF fs t = none ↔ ∀ f ∈ fs, f.tag ≠ t := by
  unfold getF
  rw [List.find?_eq_none]
  simp
theorem getF_cons (f : Fld) (r : List Fld) (t : Int) : getF (f :: r) t = if f.tag = t then some f else getF r t := by
  unfold getF
  rw [List.find?_cons]
  by_cases h : f.tag = t
  · rw [if_pos h, show (f.tag == t) = true from by simpa using h]
  · rw [if_neg h, show (f.tag == t) = false from by simpa using h]
theorem getF_of_mem {fs : List Fld} (h : fs.Pairwise (fun f g => f.tag < g.tag)) {f : Fld} (hf : f ∈ fs) : getF fs f.tag = some f := by
  induction fs with
  | nil => cases hf
  | cons g r ih =>
    obtain ⟨h1, h2⟩ := List.pairwise_cons.1 h
    rw [getF_cons]
    rcases List.mem_cons.1 hf with rfl | hf
    · rw [if_pos rfl]
    · rw [if_neg (by have := h1 f hf; omega)]
      exact ih h2 hf
theorem rise_ext : ∀ (fs gs : List Fld), fs.Pairwise (fun f g => f.tag < g.tag) → gs.Pairwise (fun f g => f.tag < g.tag) → (∀ t, getF fs t = getF gs t) → fs = gs
  | [], [], _, _, _ => rfl
  | [], g :: s, _, hg, h => by
    have := h g.tag
    rw [getF_of_mem hg (List.mem_cons_self ..)] at this
    cases this
  | f :: r, [], hf, _, h => by
    have := h f.tag
    rw [getF_of_mem hf (List.mem_cons_self ..)] at this
    cases this
  | f :: r, g :: s, hf, hg, h => by
    obtain ⟨f1, f2⟩ := List.pairwise_cons.1 hf
    obtain ⟨g1, g2⟩ := List.pairwise_cons.1 hg
    have a1 := h f.tag
    rw [getF_of_mem hf (List.mem_cons_self ..)] at a1
    have a2 := h g.tag
    rw [getF_of_mem hg (List.mem_cons_self ..)] at a2
    have b1 := (getF_mem a1.symm).1
    have b2 := (getF_mem a2).1
    have hle : g.tag ≤ f.tag := by
      rcases List.mem_cons.1 b1 with rfl | h
      · exact Int.le_refl _
      · exact Int.le_of_lt (g1 f h)
    have hge : f.tag ≤ g.tag := by
      rcases List.mem_cons.1 b2 with rfl | h
      · exact Int.le_refl _
      · exact Int.le_of_lt (f1 g h)
    have hfg : f = g := by
      rw [show f.tag = g.tag from by omega, getF_of_mem hg (List.mem_cons_self ..)] at a1
      exact Option.some.inj a1
    subst hfg
    congr 1
    refine rise_ext r s f2 g2 (fun t => ?_)
    have ht := h t
    rw [getF_cons, getF_cons] at ht
    by_cases e : f.tag = t
    · subst e
      rw [getF_none.2 (fun x hx => by have := f1 x hx; omega), getF_none.2 (fun x hx => by have := g1 x hx; omega)]
    · rwa [if_neg e, if_neg e] at ht
theorem getF_filter (p : Fld → Bool) : ∀ (fs : List Fld) (t : Int), fs.Pairwise (fun f g => f.tag < g.tag) → getF (fs.filter p) t = (getF fs t).bind (fun f => if p f = true then some f else none)
  | [], t, _ => rfl
  | f :: r, t, h => by
    obtain ⟨h1, h2⟩ := List.pairwise_cons.1 h
    have ih := getF_filter p r t h2
    rw [List.filter_cons, getF_cons]
    by_cases e : f.tag = t
    · have hr : getF r t = none := getF_none.2 (fun x hx => by have := h1 x hx; omega)
      rw [if_pos e]
      by_cases hp : p f = true
      · rw [if_pos hp, getF_cons, if_pos e]
        show _ = if p f = true then _ else _
        rw [if_pos hp]
      · rw [if_neg hp, ih, hr]
        show _ = if p f = true then _ else _
        rw [if_neg hp]; rfl
    · rw [if_neg e]
      by_cases hp : p f = true
      · rw [if_pos hp, getF_cons, if_neg e, ih]
      · rw [if_neg hp, ih]
theorem Ris.pw : ∀ {fs : List Fld} {A : Int}, Ris A fs → fs.Pairwise (fun f g => f.tag < g.tag) ∧ ∀ f ∈ fs, A < f.tag
  | [], _, _ => ⟨.nil, by simp⟩
  | f :: r, A, h => by
    obtain ⟨h1, _, _, _, h5⟩ := h
    obtain ⟨a, b⟩ := Ris.pw h5
    refine ⟨List.pairwise_cons.2 ⟨b, a⟩, fun g hg => ?_⟩
    rcases List.mem_cons.1 hg with rfl | hg
    · exact h1
    · have := b g hg; omega
/-- takes of right forms tell no error -/
theorem tk_zero : ∀ (ts : List (Int × Bool)) (fs : List Fld), (∀ x ∈ ts, ∀ f, getF fs x.1 = some f → f.text = x.2) → (ts.foldl (fun (S : List Fld × Nat) x => (delF S.1 x.1, errF S.1 S.2 x.1 x.2)) (fs, 0)).2 = 0
  | [], fs, _ => rfl
  | x :: r, fs, h => by
    have e1 : errF fs 0 x.1 x.2 = 0 := by
      unfold errF
      rcases hg : getF fs x.1 with _ | f
      · rfl
      · simp only
        rw [if_pos (h x (List.mem_cons_self ..) f hg)]
    rw [List.foldl_cons]
    show (List.foldl _ (delF fs x.1, errF fs 0 x.1 x.2) r).2 = 0
    rw [e1]
    refine tk_zero r _ (fun y hy f hf => ?_)
    by_cases e : y.1 = x.1
    · obtain ⟨m1, m2⟩ := getF_mem hf
      have := (List.mem_filter.1 m1).2
      rw [m2, e] at this
      simp at this
    · rw [getF_del_other fs e] at hf
      exact h y (List.mem_cons_of_mem _ hy) f hf
/-- an error stays -/
theorem tk_stay : ∀ (ts : List (Int × Bool)) (fs : List Fld) (e : Nat), e ≠ 0 → (ts.foldl (fun (S : List Fld × Nat) x => (delF S.1 x.1, errF S.1 S.2 x.1 x.2)) (fs, e)).2 ≠ 0
  | [], fs, e, h => h
  | x :: r, fs, e, h => by
    rw [List.foldl_cons]
    refine tk_stay r _ _ ?_
    show errF fs e x.1 x.2 ≠ 0
    unfold errF
    rcases getF fs x.1 with _ | f
    · exact h
    · simp only
      split
      · exact h
      · decide
theorem tk_right : ∀ (ts : List (Int × Bool)) (fs : List Fld), ts.Pairwise (fun x y => x.1 ≠ y.1) → (ts.foldl (fun (S : List Fld × Nat) x => (delF S.1 x.1, errF S.1 S.2 x.1 x.2)) (fs, 0)).2 = 0 → ∀ x ∈ ts, ∀ f, getF fs x.1 = some f → f.text = x.2
  | [], fs, _, _ => by simp
  | x :: r, fs, hp, h => by
    obtain ⟨p1, p2⟩ := List.pairwise_cons.1 hp
    rw [List.foldl_cons] at h
    have e1 : errF fs 0 x.1 x.2 = 0 := by
      by_cases hh : errF fs 0 x.1 x.2 = 0
      · exact hh
      · exact absurd h (tk_stay r _ _ hh)
    intro y hy f hf
    rcases List.mem_cons.1 hy with rfl | hy
    · unfold errF at e1
      rw [hf] at e1
      simp only at e1
      by_cases ht : f.text = y.2
      · exact ht
      · rw [if_neg ht] at e1; cases e1
    · have h2 : (List.foldl (fun (S : List Fld × Nat) x => (delF S.1 x.1, errF S.1 S.2 x.1 x.2)) (delF fs x.1, 0) r).2 = 0 := by
        have h3 : (List.foldl (fun (S : List Fld × Nat) x => (delF S.1 x.1, errF S.1 S.2 x.1 x.2)) (delF fs x.1, errF fs 0 x.1 x.2) r).2 = 0 := h
        rwa [e1] at h3
      refine tk_right r _ p2 h2 y hy f ?_
      rw [getF_del_other fs (fun e => p1 y hy e.symm)]
      exact hf
theorem tkF_mem (f : Fld) : ∀ (ts : List (Int × Bool)) (fs : List Fld), f ∈ tkF fs ts ↔ f ∈ fs ∧ ∀ x ∈ ts, f.tag ≠ x.1
  | [], fs => by simp [tkF]
  | x :: r, fs => by
    show f ∈ tkF (delF fs x.1) r ↔ _
    rw [tkF_mem f r]
    unfold delF
    simp only [List.mem_filter, List.mem_cons, forall_eq_or_imp]
    simp
    constructor
    · rintro ⟨⟨a, b⟩, c⟩; exact ⟨a, b, c⟩
    · rintro ⟨a, b, c⟩; exact ⟨⟨a, b⟩, c⟩
theorem errR_zero {fs : List Fld} {ts : List (Int × Bool)} : errR (tkF fs ts) (tkE fs ts) = 0 ↔ tkE fs ts = 0 ∧ ∀ f ∈ fs, ∃ x ∈ ts, f.tag = x.1 := by
  unfold errR
  by_cases he : tkE fs ts = 0
  · rw [if_neg (by simp [he])]
    constructor
    · intro h
      refine ⟨he, fun f hf => ?_⟩
      by_cases hh : ∃ x ∈ ts, f.tag = x.1
      · exact hh
      · exfalso
        have hm : f ∈ tkF fs ts := (tkF_mem f ts fs).2 ⟨hf, fun x hx e => hh ⟨x, hx, e⟩⟩
        rw [if_pos (List.length_pos_of_mem hm)] at h
        cases h
    · rintro ⟨_, h⟩
      have : tkF fs ts = [] := by
        rw [List.eq_nil_iff_forall_not_mem]
        intro f hf
        obtain ⟨h1, h2⟩ := (tkF_mem f ts fs).1 hf
        obtain ⟨x, hx, e⟩ := h f h1
        exact h2 x hx e
      rw [this]; rfl
  · rw [if_pos he]
    constructor
    · intro h; exact absurd h he
    · rintro ⟨h, _⟩; exact absurd h he
end Go.Proofs.YtofealmjggpacaaDoor
namespace Go.Proofs.YtofealmjggpacaaDoor
open Go.ChangeShapes Go.WideShapes Go.ChangeAt Go.RowKit
set_option linter.unusedVariables false
/-- how many tags a version has -/
def hasV (v : Int) : Int := if v ≤ 1 then 5 else if v ≤ 2 then 6 else if v ≤ 3 then 7 else if v ≤ 4 then 8 else 10
theorem tgV_mem {v : Int} (h1 : 1 ≤ v) (h5 : v ≤ 5) (t : Int) : (∃ x ∈ tgV v, t = x.1) ↔ 1 ≤ t ∧ t ≤ hasV v := by
  have hv : v = 1 ∨ v = 2 ∨ v = 3 ∨ v = 4 ∨ v = 5 := by omega
  rcases hv with rfl | rfl | rfl | rfl | rfl
  · show (∃ x ∈ tg1 ++ [(4, false)], t = x.1) ↔ 1 ≤ t ∧ t ≤ 5
    simp [tg1]; omega
  · show (∃ x ∈ tg2 ++ [(4, false)], t = x.1) ↔ 1 ≤ t ∧ t ≤ 6
    simp [tg2]; omega
  · show (∃ x ∈ tg3 ++ [(4, false)], t = x.1) ↔ 1 ≤ t ∧ t ≤ 7
    simp [tg3]; omega
  · show (∃ x ∈ tg4 ++ [(4, false)], t = x.1) ↔ 1 ≤ t ∧ t ≤ 8
    simp [tg4]; omega
  · show (∃ x ∈ tg5 ++ [(4, false)], t = x.1) ↔ 1 ≤ t ∧ t ≤ 10
    simp [tg5]; omega
/-- the tags of texts -/
def isT (t : Int) : Bool := decide (t = 8 ∨ t = 10)
theorem tgV_text {v : Int} (h1 : 1 ≤ v) (h5 : v ≤ 5) : ∀ x ∈ tgV v, x.2 = isT x.1 := by
  have hv : v = 1 ∨ v = 2 ∨ v = 3 ∨ v = 4 ∨ v = 5 := by omega
  rcases hv with rfl | rfl | rfl | rfl | rfl <;> decide
theorem tgV_apart {v : Int} (h1 : 1 ≤ v) (h5 : v ≤ 5) : (tgV v).Pairwise (fun x y => x.1 ≠ y.1) := by
  have hv : v = 1 ∨ v = 2 ∨ v = 3 ∨ v = 4 ∨ v = 5 := by omega
  rcases hv with rfl | rfl | rfl | rfl | rfl <;> decide
theorem capN_nat {x : Int} (h0 : 0 ≤ x) (h1 : x ≤ 1099511627776) : capN x.toNat = x := by
  unfold capN
  rw [if_pos (by omega)]; omega
theorem num_at {v : Int} {E : Ev} (r : Right v E) {t : Int} {n : Nat} (h : getF (evF v E) t = some ⟨t, false, n, []⟩) : numF (efs v E) t = n := by
  unfold numF efs
  rw [getF_filter nz _ t r.ris.pw.1, h]
  show (match (if nz ⟨t, false, n, []⟩ = true then some (⟨t, false, n, []⟩ : Fld) else none) with | some f => if f.text = false then f.num else 0 | none => 0) = n
  by_cases hn : n = 0
  · subst hn; rfl
  · rw [if_pos (by simp [nz, hn])]; rfl
theorem txt_at {v : Int} {E : Ev} (r : Right v E) {t : Int} {l : List Nat} (h : getF (evF v E) t = some ⟨t, true, 0, l⟩) : txtF (efs v E) t = l := by
  unfold txtF efs
  rw [getF_filter nz _ t r.ris.pw.1, h]
  show (match (if nz ⟨t, true, 0, l⟩ = true then some (⟨t, true, 0, l⟩ : Fld) else none) with | some f => if f.text = true then f.bytes else [] | none => []) = l
  cases l with
  | nil => rfl
  | cons x s => rfl
theorem evF_text {v : Int} {E : Ev} : ∀ f ∈ evF v E, f.text = isT f.tag ∧ norm f = f ∧ 1 ≤ f.tag ∧ f.tag ≤ 10 := by
  intro f hf
  simp only [evF, tenF, List.mem_cons, List.not_mem_nil, or_false] at hf
  rcases hf with rfl | rfl | rfl | rfl | rfl | rfl | rfl | rfl | rfl | rfl
  all_goals exact ⟨rfl, rfl, by simp, by simp⟩
/-- a version writes its own tags alone -/
theorem efs_tags {v : Int} {E : Ev} (r : Right v E) : ∀ f ∈ efs v E, 1 ≤ f.tag ∧ f.tag ≤ hasV v := by
  intro f hf
  obtain ⟨h1, h2⟩ := List.mem_filter.1 hf
  have h3 := (evF_text f h1).2.2
  refine ⟨h3.1, ?_⟩
  have o1 := r.own1
  have o2 := r.own2
  have o3 := r.own3
  have o4 := r.own4
  rw [nilB_iff] at o3 o4
  simp only [evF, tenF, List.mem_cons, List.not_mem_nil, or_false] at h1
  unfold hasV
  rcases h1 with rfl | rfl | rfl | rfl | rfl | rfl | rfl | rfl | rfl | rfl
  · show (1 : Int) ≤ _; repeat' split <;> omega
  · show (2 : Int) ≤ _; repeat' split <;> omega
  · show (3 : Int) ≤ _; repeat' split <;> omega
  · show (4 : Int) ≤ _; repeat' split <;> omega
  · show (5 : Int) ≤ _; repeat' split <;> omega
  · show (6 : Int) ≤ _
    rcases o1 with o | o
    · rw [if_neg (by omega)]; repeat' split <;> omega
    · simp [nz, o] at h2
  · show (7 : Int) ≤ _
    rcases o2 with o | o
    · rw [if_neg (by omega), if_neg (by omega)]; repeat' split <;> omega
    · simp [nz, o] at h2
  · show (8 : Int) ≤ _
    rcases o3 with o | o
    · rw [if_neg (by omega), if_neg (by omega), if_neg (by omega)]; repeat' split <;> omega
    · simp [nz, o] at h2
  · show (9 : Int) ≤ _
    rcases o4 with o | o
    · rw [if_neg (by omega), if_neg (by omega), if_neg (by omega), if_neg (by omega)]; omega
    · simp [nz, o.1] at h2
  · show (10 : Int) ≤ _
    rcases o4 with o | o
    · rw [if_neg (by omega), if_neg (by omega), if_neg (by omega), if_neg (by omega)]; omega
    · simp [nz, o.2] at h2
theorem efs_recs {v : Int} {E : Ev} (r : Right v E) : recs (ones (efs v E)) = (efs v E, 0, 0) := by
  have h := recs_back (efs v E) (ones (efs v E)) (fun f hf => (r.flds f (List.mem_filter.1 hf).1).1) (efs_encs r)
  rw [h]
  have : (efs v E).map norm = efs v E := by
    conv => rhs; rw [← List.map_id (efs v E)]
    exact List.map_congr_left (fun f hf => (evF_text f (List.mem_filter.1 hf).1).2.1)
  rw [this]
theorem nil_of_nums {s : ByteArray} (h : nums8 s = []) : s = ⟨#[]⟩ := by rw [← str8_nums8 s, h]; rfl
/-- what the version takes of a record of its own is the event -/
theorem ev_back {v : Int} {E : Ev} (r : Right v E) : ({ evV v (efs v E) with qty := qtyV v (efs v E) } : Ev) = E := by
  have hk : lastK v ≤ 10 := by unfold lastK; repeat' split <;> omega
  have hp : hiP v ≤ 100000000 := by unfold hiP; split <;> omega
  have n1 : numF (efs v E) 1 = E.kind.toNat := num_at r rfl
  have n2 : numF (efs v E) 2 = E.order.toNat := num_at r rfl
  have n3 : numF (efs v E) 3 = E.item.toNat := num_at r rfl
  have n4 : numF (efs v E) 4 = qN v E := num_at r rfl
  have n5 : numF (efs v E) 5 = E.price.toNat := num_at r rfl
  have n6 : numF (efs v E) 6 = E.cur.toNat := num_at r rfl
  have n7 : numF (efs v E) 7 = E.tax.toNat := num_at r rfl
  have n8 : txtF (efs v E) 8 = nums8 E.who := txt_at r rfl
  have n9 : numF (efs v E) 9 = E.stamp.toNat := num_at r rfl
  have n10 : txtF (efs v E) 10 = nums8 E.note := txt_at r rfl
  have q : qtyV v (efs v E) = E.qty := by
    unfold qtyV
    rw [n4]
    unfold qN
    by_cases h2 : v ≤ 2
    · rw [if_pos h2, if_pos h2, nat_of (zig_nn _), zag_zig]
    · rw [if_neg h2, if_neg h2]
      have := r.qty0
      have := r.qty1
      have : loQ v = 0 := if_neg h2
      exact capN_nat (by omega) (by omega)
  have e1 : capN E.kind.toNat = E.kind := capN_nat (by have := r.kind0; omega) (by have := r.kind1; omega)
  have e2 : capN E.order.toNat = E.order := capN_nat (by have := r.order0; omega) r.order1
  have e3 : capN E.item.toNat = E.item := capN_nat r.item0 (by have := r.item1; omega)
  have e5 : capN E.price.toNat = E.price := capN_nat r.price0 (by have := r.price1; omega)
  have e6 : capN E.cur.toNat = E.cur := capN_nat r.cur0 (by have := r.cur1; omega)
  have e7 : capN E.tax.toNat = E.tax := capN_nat r.tax0 (by have := r.tax1; omega)
  have e9 : capN E.stamp.toNat = E.stamp := capN_nat r.stamp0 r.stamp1
  have o1 := r.own1
  have o2 := r.own2
  have o3 := r.own3
  have o4 := r.own4
  rw [nilB_iff] at o3 o4
  have hv : v = 1 ∨ v = 2 ∨ v = 3 ∨ v = 4 ∨ v = 5 := by have := r.v1; have := r.v5; omega
  rw [q]
  clear q n4 r hk hp
  generalize efs v E = fs at n1 n2 n3 n5 n6 n7 n8 n9 n10 ⊢
  obtain ⟨kind, order, item, qty, price, cur, tax, who, stamp, note⟩ := E
  simp only at e1 e2 e3 e5 e6 e7 e9 n1 n2 n3 n5 n6 n7 n8 n9 n10 o1 o2 o3 o4
  have z1 : v ≤ 1 → cur = 0 := fun h => by omega
  have z2 : v ≤ 2 → tax = 0 := fun h => by omega
  have z3 : v ≤ 3 → who = ⟨#[]⟩ := fun h => nil_of_nums (by rcases o3 with o | o; omega; exact o)
  have z4 : v ≤ 4 → stamp = 0 ∧ note = ⟨#[]⟩ := fun h => by
    rcases o4 with o | o
    · omega
    · exact ⟨o.1, nil_of_nums o.2⟩
  rcases hv with rfl | rfl | rfl | rfl | rfl
  · show ({ ev1 _ with qty := qty } : Ev) = _
    simp only [ev1, n1, n2, n3, n5, e1, e2, e3, e5, z1 (by decide), z2 (by decide), z3 (by decide), (z4 (by decide)).1, (z4 (by decide)).2]
  · show ({ ev2 _ with qty := qty } : Ev) = _
    simp only [ev1, ev2, n1, n2, n3, n5, n6, e1, e2, e3, e5, e6, z2 (by decide), z3 (by decide), (z4 (by decide)).1, (z4 (by decide)).2]
  · show ({ ev3 _ with qty := qty } : Ev) = _
    simp only [ev1, ev2, ev3, n1, n2, n3, n5, n6, n7, e1, e2, e3, e5, e6, e7, z3 (by decide), (z4 (by decide)).1, (z4 (by decide)).2]
  · show ({ ev4 _ with qty := qty } : Ev) = _
    simp only [ev1, ev2, ev3, ev4, n1, n2, n3, n5, n6, n7, n8, e1, e2, e3, e5, e6, e7, str8_nums8, (z4 (by decide)).1, (z4 (by decide)).2]
  · show ({ ev5 _ with qty := qty } : Ev) = _
    simp only [ev1, ev2, ev3, ev4, ev5, n1, n2, n3, n5, n6, n7, n8, n9, n10, e1, e2, e3, e5, e6, e7, e9, str8_nums8]
theorem sdec_back {v : Int} {E : Ev} (r : Right v E) : sdec v (ones (efs v E)) = (E, 0) := by
  have h1 := r.v1
  have h5 := r.v5
  have hrec := efs_recs r
  have herr : errR (tkF (efs v E) (tgV v)) (tkE (efs v E) (tgV v)) = 0 := by
    refine errR_zero.2 ⟨tk_zero _ _ (fun x hx f hf => ?_), fun f hf => ?_⟩
    · obtain ⟨m1, m2⟩ := getF_mem hf
      rw [(evF_text f (List.mem_filter.1 m1).1).1, m2, tgV_text h1 h5 x hx]
    · exact (tgV_mem h1 h5 f.tag).2 (efs_tags r f hf)
  rw [show sdec v (ones (efs v E)) = sdR v (evV v) (qtyV v) (tgV v) (ones (efs v E)) from if_neg (by omega)]
  unfold sdR
  rw [hrec]
  simp only [herr, ev_back r, chk_of r]
  rfl
end Go.Proofs.YtofealmjggpacaaDoor
