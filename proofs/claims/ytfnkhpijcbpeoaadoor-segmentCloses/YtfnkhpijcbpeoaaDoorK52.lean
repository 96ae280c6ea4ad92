/- Own texts, joined: Sh0. -/
import Derived.Test.YtfnkhpijcbpeoaaDoorK41
import Derived.Test.YtfnkhpijcbpeoaaDoorK31
namespace Go.Proofs.YtfnkhpijcbpeoaaDoor
open Go.ChangeShapes Go.WideShapes Go.ChangeAt Go.RowKit
set_option linter.unusedVariables false
/-- so many numbers off the beginning, none above 2^41 -/
def nrB : Nat → List Nat → Option (List Nat × List Nat)
  | 0, l => some ([], l)
  | c + 1, l => if (dec 0 0 l).2.2 = 0 ∧ (dec 0 0 l).1 ≤ 2199023255552 then (nrB c (l.drop (dec 0 0 l).2.1)).map (fun p => ((dec 0 0 l).1 :: p.1, p.2)) else none
theorem nrB_step (c : Nat) (l : List Nat) (u k e : Nat) (hd : dec 0 0 l = (u, k, e)) : nrB (c + 1) l = if e = 0 ∧ u ≤ 2199023255552 then (nrB c (l.drop k)).map (fun p => (u :: p.1, p.2)) else none := by
  conv => lhs; unfold nrB
  rw [hd]
theorem nrB_go (c : Nat) (l acc r : List Nat) (j u k : Nat) (hd : dec 0 0 r = (u, k, 0)) (hu : u ≤ 2199023255552) (h : nrB c l = (nrB (j + 1) r).map (fun q => (acc ++ q.1, q.2))) : nrB c l = (nrB j (r.drop k)).map (fun q => ((acc ++ [u]) ++ q.1, q.2)) := by
  rw [h, nrB_step j r u k 0 hd, if_pos ⟨rfl, hu⟩, Option.map_map]
  congr 1
  funext q
  simp
theorem nrB_len : ∀ (c : Nat) (l : List Nat) (ns r : List Nat), nrB c l = some (ns, r) → ns.length = c
  | 0, l, ns, r, h => by
    simp only [nrB, Option.some.injEq, Prod.mk.injEq] at h
    rw [← h.1]; rfl
  | c + 1, l, ns, r, h => by
    unfold nrB at h
    split at h
    · rcases hq : nrB c (l.drop (dec 0 0 l).2.1) with _ | ⟨ms, r2⟩
      · rw [hq] at h; cases h
      · rw [hq] at h
        simp only [Option.map_some, Option.some.injEq, Prod.mk.injEq] at h
        rw [← h.1, List.length_cons, nrB_len c _ ms r2 hq]
    · cases h
theorem nr_rel : ∀ (c : Nat) (l : List Nat), nrd c l = (nrB c l).bind (fun p => if ∀ x ∈ p.1, x ≤ 1099511627777 then some p else none)
  | 0, l => by simp [nrd, nrB]
  | c + 1, l => by
    unfold nrd nrB
    obtain ⟨u, hu⟩ : ∃ u, (dec 0 0 l).1 = u := ⟨_, rfl⟩
    rw [hu]
    by_cases he : (dec 0 0 l).2.2 = 0
    · by_cases h1 : u ≤ 1099511627777
      · rw [if_pos ⟨he, h1⟩, if_pos ⟨he, by omega⟩, nr_rel c]
        rcases nrB c (l.drop (dec 0 0 l).2.1) with _ | ⟨ms, r2⟩
        · rfl
        · simp only [Option.bind_some, Option.map_some]
          by_cases ha : ∀ x ∈ ms, x ≤ 1099511627777
          · rw [if_pos ha, if_pos (by intro x hx; rcases List.mem_cons.1 hx with rfl | h; exact h1; exact ha x h)]
            rfl
          · rw [if_neg ha, if_neg (fun h => ha (fun x hx => h x (List.mem_cons_of_mem _ hx)))]
            rfl
      · rw [if_neg (fun h => h1 h.2)]
        split
        · rcases nrB c (l.drop (dec 0 0 l).2.1) with _ | ⟨ms, r2⟩
          · rfl
          · simp only [Option.bind_some, Option.map_some]
            rw [if_neg (fun h => h1 (h u (List.mem_cons_self ..)))]
        · rfl
    · rw [if_neg (fun h => he h.1), if_neg (fun h => he h.1)]
      rfl
/-- the loop over the marks -/
def lpB (u st : Nat) (foot : Int) : Int → Nat → List Mk → Bool
  | left, _, [] => decide (left ≤ 0)
  | left, i, p :: r => if left ≤ 0 ∨ p.1 ≠ ((u + i * st : Nat) : Int) ∨ foot ≤ p.2 then false else lpB u st foot (left - (st : Int)) (i + 1) r
theorem lp_fit (u st : Nat) (foot : Int) (hst : 1 ≤ st) : ∀ (M : List Mk) (left : Int) (i : Nat), lpB u st foot left i M = true ↔ fitN u st foot i M = true ∧ left ≤ (M.length : Int) * (st : Int) ∧ (M = [] ∨ ((M.length : Int) - 1) * (st : Int) < left)
  | [], left, i => by simp [lpB, fitN]
  | p :: r, left, i => by
    have e1 : ((((p :: r).length : Nat) : Int)) * (st : Int) = (r.length : Int) * (st : Int) + (st : Int) := by
      rw [List.length_cons]; push_cast; rw [Int.add_mul]; omega
    have e2 : ((((p :: r).length : Nat) : Int) - 1) * (st : Int) = (r.length : Int) * (st : Int) := by
      rw [Int.sub_mul, e1]; omega
    have e3 : ((r.length : Int) - 1) * (st : Int) = (r.length : Int) * (st : Int) - (st : Int) := by
      rw [Int.sub_mul]; omega
    have e0 : (0 : Int) ≤ (r.length : Int) * (st : Int) := Int.mul_nonneg (by omega) (by omega)
    rw [e1, e2]
    show (if left ≤ 0 ∨ p.1 ≠ ((u + i * st : Nat) : Int) ∨ foot ≤ p.2 then false else lpB u st foot (left - (st : Int)) (i + 1) r) = true ↔ (if p.1 = ((u + i * st : Nat) : Int) ∧ p.2 < foot then fitN u st foot (i + 1) r else false) = true ∧ _
    have ih := lp_fit u st foot hst r (left - (st : Int)) (i + 1)
    rw [e3] at ih
    by_cases h1 : p.1 = ((u + i * st : Nat) : Int) ∧ p.2 < foot
    · rw [if_pos h1]
      by_cases h0 : left ≤ 0
      · rw [if_pos (.inl h0)]
        simp only [Bool.false_eq_true, List.cons_ne_nil, false_or, false_iff, not_and]
        intro _ _
        omega
      · rw [if_neg (by intro h; rcases h with h | h | h; exact h0 h; exact h h1.1; omega), ih]
        constructor
        · rintro ⟨a, b, c⟩
          refine ⟨a, by omega, .inr ?_⟩
          rcases c with c | c
          · rw [c]; simp; omega
          · omega
        · rintro ⟨a, b, c⟩
          refine ⟨a, by omega, ?_⟩
          rcases c with c | c
          · cases c
          · by_cases hr : r = []
            · exact .inl hr
            · exact .inr (by omega)
    · rw [if_neg h1, if_pos (by
        by_cases h2 : p.1 = ((u + i * st : Nat) : Int)
        · exact .inr (.inr (by have : ¬ p.2 < foot := fun h => h1 ⟨h2, h⟩; omega))
        · exact .inr (.inl h2))]
      simp
theorem lp_fitB (M : List Mk) (u v st : Nat) (foot : Int) (hv : 1 ≤ v) (hst : 1 ≤ st) : lpB u st foot (v : Int) 0 M = fitB M u v st foot := by
  have h := lp_fit u st foot hst M (v : Int) 0
  obtain ⟨q, hq⟩ : ∃ q, M.length = q := ⟨_, rfl⟩
  have hM : M = [] ↔ q = 0 := by rw [← hq]; exact List.length_eq_zero_iff.symm
  rw [hq, hM] at h
  have key : ((v : Int) ≤ (q : Int) * (st : Int) ∧ (q = 0 ∨ ((q : Int) - 1) * (st : Int) < (v : Int))) ↔ q = (v + st - 1) / st := by
    have hx : ((q * st : Nat) : Int) = (q : Int) * (st : Int) := by push_cast; rfl
    have hy : ((q : Int) - 1) * (st : Int) = (q : Int) * (st : Int) - (st : Int) := by rw [Int.sub_mul]; omega
    rw [hy, ← hx]
    constructor
    · rintro ⟨a, b⟩
      have a2 : v ≤ q * st := by omega
      have hq1 : q ≠ 0 := by intro h0; rw [h0, Nat.zero_mul] at a2; omega
      have b2 : q * st < v + st := by rcases b with b | b; exact absurd b hq1; omega
      exact (Nat.div_eq_of_lt_le (by omega) (by rw [Nat.succ_mul]; omega)).symm
    · intro e
      have h1 : q * st ≤ v + st - 1 := by rw [e]; exact Nat.div_mul_le_self _ _
      have h2 : v + st - 1 < q * st + st := by
        have := Nat.lt_div_mul_add (a := v + st - 1) (b := st) (by omega)
        rw [← e] at this
        exact this
      exact ⟨by omega, .inr (by omega)⟩
  rw [key] at h
  unfold fitB
  rw [hq]
  by_cases e : q = (v + st - 1) / st
  · rw [if_pos e]
    cases hf : fitN u st foot 0 M with
    | true => exact h.2 ⟨hf, e⟩
    | false =>
      cases hl : lpB u st foot (v : Int) 0 M with
      | false => rfl
      | true => have := (h.1 hl).1; rw [hf] at this; cases this
  · rw [if_neg e]
    cases hl : lpB u st foot (v : Int) 0 M with
    | false => rfl
    | true => exact absurd (h.1 hl).2 e
/-- what the reference's Closing answers -/
def clT (first count foot : Int) : Option (List Nat × List Nat) → Option (List Mk × Nat)
  | some ([u, v, st], r) => if ((mDec r).2 = 0 ∧ 1 ≤ v ∧ 1 ≤ st ∧ st ≤ 64 ∧ (u : Int) = first ∧ (v : Int) = count) ∧ lpB u st foot count 0 (mDec r).1 = true then some ((mDec r).1, st) else none
  | _ => none
def clX (l : List Nat) (num first count foot : Int) : Option (List Mk × Nat) :=
  if whE l 3 = 0 ∧ (ps l : Int) = num then clT first count foot (nrB 3 (decB l)) else none
theorem mDec_valid {r : List Nat} (h : (mDec r).2 = 0) : validB (mDec r).1 = true := by
  unfold mDec at h ⊢
  split at h
  · rename_i h1; exact absurd h h1
  · rename_i h1
    rw [if_neg h1]
    split at h
    · cases h
    · rename_i h2
      rw [if_neg h2]
      split at h
      · cases h
      · rename_i L hL
        split at h
        · rename_i h3; rw [if_pos h3]; exact h3
        · cases h
theorem clX_eq (l : List Nat) (num first count foot : Int) : clX l num first count foot = clR l num first count foot := by
  unfold clX clR
  by_cases h0 : whE l 3 = 0 ∧ (ps l : Int) = num
  · rw [if_pos h0, if_pos h0, nr_rel]
    rcases hn : nrB 3 (decB l) with _ | ⟨ns, r⟩
    · rfl
    · have hlen := nrB_len 3 _ _ _ hn
      match ns, hlen with
      | [u, v, st], _ =>
        simp only [Option.bind_some, clT]
        by_cases ha : ∀ x ∈ [u, v, st], x ≤ 1099511627777
        · rw [if_pos ha]
          simp only
          by_cases h1 : (mDec r).2 = 0 ∧ 1 ≤ v ∧ 1 ≤ st ∧ st ≤ 64 ∧ (u : Int) = first ∧ (v : Int) = count
          · obtain ⟨a1, a2, a3, a4, a5, a6⟩ := h1
            subst a6
            rw [lp_fitB _ u v st foot a2 a3]
            by_cases h2 : fitB (mDec r).1 u v st foot = true
            · rw [if_pos ⟨⟨a1, a2, a3, a4, a5, rfl⟩, h2⟩, if_pos ⟨⟨a5, rfl, a2, a3, a4⟩, a1, h2⟩]
            · rw [if_neg (fun h => h2 h.2), if_neg (fun h => h2 h.2.2)]
          · rw [if_neg (fun h => h1 h.1), if_neg (fun h => h1 ⟨h.2.1, h.1.2.2.1, h.1.2.2.2.1, h.1.2.2.2.2, h.1.1, h.1.2.1⟩)]
        · rw [if_neg ha]
          simp only
          rw [if_neg]
          rintro ⟨⟨a1, a2, a3, a4, a5, a6⟩, h2⟩
          subst a6
          have hv := mDec_valid a1
          have hL := valid_len hv
          have hf := (lp_fit u st foot a3 (mDec r).1 (v : Int) 0).1 h2
          have hvb : v ≤ 32768 := by
            have h3 : ((mDec r).1.length : Int) * (st : Int) ≤ 512 * 64 := Int.mul_le_mul (by omega) (by omega) (by omega) (by omega)
            have h4 := hf.2.1
            omega
          apply ha
          intro x hx
          simp only [List.mem_cons, List.not_mem_nil, or_false] at hx
          rcases hx with rfl | rfl | rfl
          · have hne : (mDec r).1 ≠ [] := by
              intro e
              have h4 := hf.2.1
              rw [e] at h4
              simp at h4
              omega
            rcases hM : (mDec r).1 with _ | ⟨p, t⟩
            · exact absurd hM hne
            · have h5 := hf.1
              have h6 := valid_from hv
              rw [hM] at h5 h6
              rw [vfrom_cons] at h6
              unfold fitN at h5
              split at h5
              · rename_i h7
                split at h6
                · cases h6
                · rename_i h8
                  have h9 := h7.1
                  simp only [Nat.zero_mul, Nat.add_zero] at h9
                  omega
              · cases h5
          · omega
          · omega
  · rw [if_neg h0, if_neg h0]
end Go.Proofs.YtfnkhpijcbpeoaaDoor
