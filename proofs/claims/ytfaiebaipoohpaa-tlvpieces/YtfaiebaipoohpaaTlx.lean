/- Two records behind each other, in the abstract. -/
import Derived.Test.YtfaiebaipoohpaaTlo
namespace Go.Proofs.Ytfaiebaipoohpaa
open Go.ChangeShapes Go.WideShapes Go.ChangeAt Go.RowKit
theorem decs_succ' (fuel : Nat) (l : List Nat) (last : Int) (i : Nat) (acc : List Fld) : decs (fuel + 1) l last i acc = if l.length ≤ i then (acc, 0, 0) else if (next (l.drop i) last).2.2 ≠ 0 then ([], i, (next (l.drop i) last).2.2) else decs fuel l (next (l.drop i) last).1.tag (i + (next (l.drop i) last).2.1) (acc ++ [(next (l.drop i) last).1]) := rfl
/-- a field that is read is read with anything behind it -/
theorem next_more (l r : List Nat) (hl : ∀ x ∈ l, x < 256) (A : Int) (F : Fld) (sz : Nat) (h : next l A = (F, sz, 0)) : next (l ++ r) A = (F, sz, 0) := by
  obtain ⟨r1, r2, r3, r4, r5, r6, r7, _, _, _, r8⟩ := next_right l hl A F sz h
  have h1 : l ++ r = one F ++ (l.drop sz ++ r) := by rw [r3, ← List.append_assoc, List.take_append_drop]
  rw [h1, next_one F A _ r6 r1, r2, r3, List.length_take, Nat.min_eq_left r4]
/-- behind a greater tag -/
theorem next_up (l : List Nat) (hl : ∀ x ∈ l, x < 256) (A B : Int) (F : Fld) (sz : Nat) (h : next l A = (F, sz, 0)) (hB : B < F.tag) : next l B = (F, sz, 0) := by
  obtain ⟨r1, r2, r3, r4, r5, r6, r7, t1, t2, t3, r8⟩ := next_right l hl A F sz h
  have h1 : l = one F ++ l.drop sz := by rw [r3, List.take_append_drop]
  have h2 : flt F B = 0 := by
    unfold flt at r1 ⊢
    rw [if_neg (by omega), if_neg (by omega)] at r1
    rw [if_neg (by omega), if_neg (by omega)]
    exact r1
  have h3 := next_one F B (l.drop sz) r6 h2
  rw [← h1, r2, r3, List.length_take, Nat.min_eq_left r4] at h3
  exact h3
theorem next_low (l : List Nat) (A B : Int) (F : Fld) (sz : Nat) (h : next l A = (F, sz, 0)) (hB : F.tag ≤ B) : (next l B).2.2 = 21 := by
  rcases hd : dec 0 0 l with ⟨k, n1, e1⟩
  by_cases he1 : e1 = 0
  · subst he1
    rcases hd2 : dec 0 0 (l.drop n1) with ⟨u, m, e2⟩
    rw [next_two l A k n1 u m e2 hd hd2] at h
    rw [next_two l B k n1 u m e2 hd hd2]
    unfold nextR at h ⊢
    by_cases c1 : k < 2 ∨ 63 < k
    · rw [if_pos c1] at h; simp [fail] at h
    rw [if_neg c1] at h ⊢
    by_cases c2 : (k / 2 : Nat) ≤ A
    · rw [if_pos c2] at h; simp [fail] at h
    rw [if_neg c2] at h
    have ht : F.tag = ((k / 2 : Nat) : Int) := by
      by_cases c3 : e2 = 0
      · rw [if_neg (by simpa using c3)] at h
        by_cases c4 : u = 0
        · rw [if_pos c4] at h; simp [fail] at h
        rw [if_neg c4] at h
        by_cases c5 : k % 2 = 0
        · rw [if_pos c5] at h; rw [← (Prod.mk.inj h).1]
        rw [if_neg c5] at h
        by_cases c6 : 200 < u
        · rw [if_pos c6] at h; simp [fail] at h
        rw [if_neg c6] at h
        by_cases c7 : l.length < n1 + m + u
        · rw [if_pos c7] at h; simp [fail] at h
        rw [if_neg c7] at h; rw [← (Prod.mk.inj h).1]
      · rw [if_pos c3] at h; simp [fail] at h; omega
    rw [if_pos (by rw [← ht]; exact hB)]
    rfl
  · rw [next_bad l A k n1 e1 hd he1] at h
    simp [fail] at h; omega
/-- the fields of a record, read with b behind it: on at b -/
theorem decs_on (a b : List Nat) (ha : ∀ x ∈ a, x < 256) : ∀ (fuel i : Nat) (A : Int) (acc rest : List Fld), i ≤ a.length → a.length - i < fuel → decs fuel a A i acc = (acc ++ rest, 0, 0) →
    ∀ f2, a.length - i < f2 → ∃ f3, f2 ≤ f3 + (a.length - i) ∧ decs f2 (a ++ b) A i acc = decs f3 (a ++ b) ((rest.getLast?.map Fld.tag).getD A) a.length (acc ++ rest) := by
  intro fuel
  induction fuel with
  | zero => intro i A acc rest h1 h2; omega
  | succ fuel ih =>
    intro i A acc rest h1 h2 h f2 h3
    rw [decs_succ'] at h
    by_cases hi : a.length ≤ i
    · rw [if_pos hi] at h
      have hr : rest = [] := by have := (Prod.mk.inj h).1; simpa using this.symm
      subst hr
      obtain rfl : i = a.length := by omega
      exact ⟨f2, by omega, by simp⟩
    · rw [if_neg hi] at h
      rcases hx : next (a.drop i) A with ⟨F, sz, e⟩
      rw [hx] at h
      simp only at h
      by_cases he : e = 0
      · subst he
        rw [if_neg (by simp)] at h
        have ha2 : ∀ x ∈ a.drop i, x < 256 := fun x hx => ha x (List.mem_of_mem_drop hx)
        obtain ⟨_, _, _, r4, r5, _, _, _, _, _, _⟩ := next_right (a.drop i) ha2 A F sz hx
        rw [List.length_drop] at r4
        obtain ⟨k1, _⟩ := decs_facts a ha fuel (i + sz) F.tag (acc ++ [F]) (by omega) (by omega)
        obtain ⟨rest2, e1, _, _, _⟩ := k1 (by rw [h])
        rw [h] at e1
        simp only at e1
        have hr : rest = F :: rest2 := by
          have : acc ++ rest = acc ++ (F :: rest2) := by rw [e1]; simp
          exact List.append_cancel_left this
        subst hr
        obtain ⟨f2', rfl⟩ : ∃ f2', f2 = f2' + 1 := ⟨f2 - 1, by omega⟩
        have h' : decs fuel a F.tag (i + sz) (acc ++ [F]) = ((acc ++ [F]) ++ rest2, 0, 0) := by rw [h]; simp
        obtain ⟨f3, g1, g2⟩ := ih (i + sz) F.tag (acc ++ [F]) rest2 (by omega) (by omega) h' f2' (by omega)
        refine ⟨f3, by omega, ?_⟩
        have hd : (a ++ b).drop i = a.drop i ++ b := by rw [List.drop_append_of_le_length (by omega)]
        rw [decs_succ', if_neg (by rw [List.length_append]; omega), hd, next_more _ b ha2 A F sz hx]
        simp only [ne_eq, not_true_eq_false, if_false]
        rw [g2]
        have hl : (((F :: rest2).getLast?).map Fld.tag).getD A = ((rest2.getLast?).map Fld.tag).getD F.tag := by
          cases rest2 with
          | nil => rfl
          | cons x y =>
            cases hz : (x :: y).getLast? with
            | none => simp at hz
            | some z => rw [List.getLast?_cons_cons, hz]; rfl
        rw [hl]
        simp
      · rw [if_pos he] at h
        have := (Prod.mk.inj (Prod.mk.inj h).2).2
        exact absurd this he
/-- the fields of b, read with a ahead of them -/
theorem decs_shift (a b : List Nat) : ∀ (fuel i : Nat) (A : Int) (acc rest acc2 : List Fld) , b.length - i < fuel → i ≤ b.length → decs fuel b A i acc = (acc ++ rest, 0, 0) → (∀ x ∈ b, x < 256) → ∀ f2, b.length - i < f2 → decs f2 (a ++ b) A (a.length + i) acc2 = (acc2 ++ rest, 0, 0) := by
  intro fuel
  induction fuel with
  | zero => intro i A acc rest acc2 h1; omega
  | succ fuel ih =>
    intro i A acc rest acc2 h1 h2 h hb f2 h3
    obtain ⟨f2', rfl⟩ : ∃ f2', f2 = f2' + 1 := ⟨f2 - 1, by omega⟩
    have hd : (a ++ b).drop (a.length + i) = b.drop i := by rw [List.drop_append]; simp
    rw [decs_succ'] at h ⊢
    rw [List.length_append, hd]
    by_cases hi : b.length ≤ i
    · rw [if_pos hi] at h
      have hr : rest = [] := by have := (Prod.mk.inj h).1; simpa using this.symm
      subst hr
      rw [if_pos (by omega)]; simp
    · rw [if_neg hi] at h
      rw [if_neg (by omega)]
      rcases hx : next (b.drop i) A with ⟨F, sz, e⟩
      rw [hx] at h
      simp only at h ⊢
      by_cases he : e = 0
      · subst he
        rw [if_neg (by simp)] at h ⊢
        have hb2 : ∀ x ∈ b.drop i, x < 256 := fun x hx => hb x (List.mem_of_mem_drop hx)
        obtain ⟨_, _, _, r4, r5, _, _, _, _, _, _⟩ := next_right (b.drop i) hb2 A F sz hx
        rw [List.length_drop] at r4
        obtain ⟨k1, _⟩ := decs_facts b hb fuel (i + sz) F.tag (acc ++ [F]) (by omega) (by omega)
        obtain ⟨rest2, e1, _, _, _⟩ := k1 (by rw [h])
        rw [h] at e1
        simp only at e1
        have hr : rest = F :: rest2 := by
          have : acc ++ rest = acc ++ (F :: rest2) := by rw [e1]; simp
          exact List.append_cancel_left this
        subst hr
        have h' : decs fuel b F.tag (i + sz) (acc ++ [F]) = ((acc ++ [F]) ++ rest2, 0, 0) := by rw [h]; simp
        rw [Nat.add_assoc, ih (i + sz) F.tag (acc ++ [F]) rest2 (acc2 ++ [F]) (by omega) (by omega) h' hb f2' (by omega)]
        simp
      · rw [if_pos he] at h
        exact absurd (Prod.mk.inj (Prod.mk.inj h).2).2 he
/-- two records behind each other -/
theorem recs_two (a b : List Nat) (ha : ∀ x ∈ a, x < 256) (hb : ∀ x ∈ b, x < 256) (x y : List Fld) (lx fy : Fld) (y2 : List Fld) (h1 : recs a = (x, 0, 0)) (h2 : recs b = (y, 0, 0)) (hx : x.getLast? = some lx) (hy : y = fy :: y2) :
    (1024 < a.length + b.length → recs (a ++ b) = ([], 0, 24)) ∧ (¬ 1024 < a.length + b.length → fy.tag ≤ lx.tag → recs (a ++ b) = ([], a.length, 21)) ∧ (¬ 1024 < a.length + b.length → ¬ fy.tag ≤ lx.tag → recs (a ++ b) = (x ++ y, 0, 0)) := by
  have la := (recs_ok a ha (by rw [h1])).2.2.2
  have lb := (recs_ok b hb (by rw [h2])).2.2.2
  unfold recs at h1 h2
  rw [if_neg (by omega)] at h1 h2
  refine ⟨fun h => by unfold recs; rw [if_pos (by rw [List.length_append]; exact h)], ?_⟩
  have hkey : ¬ 1024 < a.length + b.length → ∃ f3, b.length < f3 ∧ recs (a ++ b) = decs f3 (a ++ b) lx.tag a.length x := by
    intro h
    obtain ⟨f3, g1, g2⟩ := decs_on a b ha (a.length + 1) 0 0 [] x (by omega) (by omega) (by simpa using h1) ((a ++ b).length + 1) (by rw [List.length_append]; omega)
    refine ⟨f3, by rw [List.length_append] at g1; omega, ?_⟩
    unfold recs
    rw [if_neg (by rw [List.length_append]; exact h), g2, hx]; simp
  have hd : (a ++ b).drop a.length = b := List.drop_left
  have hb0 : 0 < b.length := by
    by_cases hz : b.length = 0
    · rw [decs_succ', if_pos (by omega)] at h2
      have := (Prod.mk.inj h2).1
      rw [hy] at this; cases this
    · omega
  rw [decs_succ', if_neg (by omega), List.drop_zero] at h2
  rcases hxx : next b 0 with ⟨F, sz, e⟩
  rw [hxx] at h2
  simp only at h2
  have he : e = 0 := by
    by_cases he : e = 0
    · exact he
    · rw [if_pos he] at h2
      exact absurd (Prod.mk.inj (Prod.mk.inj h2).2).2 he
  subst he
  rw [if_neg (by simp)] at h2
  obtain ⟨_, _, _, r4, r5, _, _, _, _, _, _⟩ := next_right b hb 0 F sz hxx
  obtain ⟨k1, _⟩ := decs_facts b hb b.length (0 + sz) F.tag ([] ++ [F]) (by omega) (by omega)
  obtain ⟨rest2, e1, _, _, _⟩ := k1 (by rw [h2])
  rw [h2] at e1
  simp only at e1
  have hFe : F = fy ∧ rest2 = y2 := by
    rw [hy] at e1
    simp at e1
    exact ⟨e1.1.symm, e1.2.symm⟩
  obtain ⟨rfl, rfl⟩ := hFe
  constructor
  · intro h ht
    obtain ⟨f3, g1, g2⟩ := hkey h
    obtain ⟨f4, rfl⟩ : ∃ f4, f3 = f4 + 1 := ⟨f3 - 1, by omega⟩
    rw [g2, decs_succ', if_neg (by rw [List.length_append]; omega), hd, next_low b 0 lx.tag F sz hxx ht, if_pos (by simp)]
  · intro h ht
    obtain ⟨f3, g1, g2⟩ := hkey h
    obtain ⟨f4, rfl⟩ : ∃ f4, f3 = f4 + 1 := ⟨f3 - 1, by omega⟩
    rw [g2, decs_succ', if_neg (by rw [List.length_append]; omega), hd, next_up b hb 0 lx.tag F sz hxx (by omega)]
    simp only [ne_eq, not_true_eq_false, if_false]
    have h2' : decs b.length b F.tag sz [F] = ([F] ++ rest2, 0, 0) := by
      have := h2; simp only [Nat.zero_add, List.nil_append] at this; rw [this, hy]; rfl
    rw [decs_shift a b b.length sz F.tag [F] rest2 (x ++ [F]) (by omega) (by omega) h2' hb f4 (by omega), hy]
    simp
end Go.Proofs.Ytfaiebaipoohpaa
