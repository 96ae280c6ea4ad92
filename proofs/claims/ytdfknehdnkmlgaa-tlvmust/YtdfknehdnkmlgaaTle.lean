/- What is written is read: whole records, in the abstract. -/
import Derived.Test.YtdfknehdnkmlgaaTlo
namespace Go.Proofs.Ytdfknehdnkmlgaa
open Go.ChangeShapes Go.WideShapes Go.ChangeAt Go.RowKit
theorem encs_pre : ∀ (fs : List Fld) (A : Int) (b r : List Nat), encs fs A b = (r, 0) → (∃ t, r = b ++ t) ∧ r.length ≤ 1024
  | [], A, b, r, h => by
    have h' : (if 1024 < b.length then (([] : List Nat), 24) else (b, 0)) = (r, 0) := h
    by_cases hb : 1024 < b.length
    · rw [if_pos hb] at h'; simp at h'
    · rw [if_neg hb] at h'
      have := (Prod.mk.inj h').1
      subst this
      exact ⟨⟨[], by simp⟩, by omega⟩
  | f :: fs, A, b, r, h => by
    have h' : (if flt f A ≠ 0 then (([] : List Nat), flt f A) else encs fs f.tag (b ++ one f)) = (r, 0) := h
    by_cases hz : flt f A = 0
    · rw [hz, if_neg (by simp)] at h'
      obtain ⟨⟨t, ht⟩, hl⟩ := encs_pre fs f.tag (b ++ one f) r h'
      exact ⟨⟨one f ++ t, by rw [ht]; simp⟩, hl⟩
    · rw [if_pos hz] at h'
      exact absurd (Prod.mk.inj h').2 hz
theorem norm_tag (f : Fld) : (norm f).tag = f.tag ∧ (norm f).text = f.text := by
  unfold norm; split <;> exact ⟨rfl, rfl⟩
theorem norm_norm (f : Fld) : norm (norm f) = norm f := by
  unfold norm
  by_cases h : f.text = true
  · rw [if_pos h]; rw [if_pos h]
  · rw [if_neg h]; rw [if_neg h]
theorem encs_back : ∀ (fs : List Fld) (A : Int) (b r : List Nat), (∀ f ∈ fs, f.num ≤ 18446744073709551615) → encs fs A b = (r, 0) → ∀ (fuel : Nat) (acc : List Fld), r.length - b.length < fuel → decs fuel r A b.length acc = (acc ++ fs.map norm, 0, 0)
  | [], A, b, r, _, h, fuel, acc, hf => by
    have h' : (if 1024 < b.length then (([] : List Nat), 24) else (b, 0)) = (r, 0) := h
    by_cases hb : 1024 < b.length
    · rw [if_pos hb] at h'; simp at h'
    · rw [if_neg hb] at h'
      have := (Prod.mk.inj h').1
      subst this
      obtain ⟨f', rfl⟩ : ∃ f', fuel = f' + 1 := ⟨fuel - 1, by omega⟩
      show (if b.length ≤ b.length then (acc, 0, 0) else _) = _
      rw [if_pos (Nat.le_refl _)]; simp
  | f :: fs, A, b, r, hn, h, fuel, acc, hf => by
    have h' : (if flt f A ≠ 0 then (([] : List Nat), flt f A) else encs fs f.tag (b ++ one f)) = (r, 0) := h
    by_cases hz : flt f A = 0
    · rw [hz, if_neg (by simp)] at h'
      obtain ⟨⟨t, ht⟩, hl⟩ := encs_pre fs f.tag (b ++ one f) r h'
      have hone := one_len f A (hn f (by simp)) hz
      obtain ⟨f', rfl⟩ : ∃ f', fuel = f' + 1 := ⟨fuel - 1, by omega⟩
      have hrl : r.length = b.length + (one f).length + t.length := by rw [ht, List.length_append, List.length_append]
      have hd : r.drop b.length = one f ++ t := by rw [ht, List.append_assoc, List.drop_left]
      have hs : decs (f' + 1) r A b.length acc = if r.length ≤ b.length then (acc, 0, 0) else if (next (r.drop b.length) A).2.2 ≠ 0 then ([], b.length, (next (r.drop b.length) A).2.2) else decs f' r (next (r.drop b.length) A).1.tag (b.length + (next (r.drop b.length) A).2.1) (acc ++ [(next (r.drop b.length) A).1]) := rfl
      rw [hs, if_neg (by omega), hd, next_one f A t (hn f (by simp)) hz]
      simp only [ne_eq, not_true_eq_false, if_false]
      rw [(norm_tag f).1]
      have ih := encs_back fs f.tag (b ++ one f) r (fun g hg => hn g (List.mem_cons_of_mem _ hg)) h' f' (acc ++ [norm f]) (by rw [List.length_append]; omega)
      rw [List.length_append] at ih
      rw [ih]
      simp
    · rw [if_pos hz] at h'
      exact absurd (Prod.mk.inj h').2 hz
theorem encs_err : ∀ (fs : List Fld) (A : Int) (b : List Nat), (encs fs A b).2 ≠ 0 → (encs fs A b).1 = []
  | [], A, b, h => by
    have hd : encs [] A b = if 1024 < b.length then ([], 24) else (b, 0) := rfl
    rw [hd] at h ⊢
    by_cases hb : 1024 < b.length
    · rw [if_pos hb]
    · rw [if_neg hb] at h; exact absurd rfl h
  | f :: fs, A, b, h => by
    have hd : encs (f :: fs) A b = if flt f A ≠ 0 then ([], flt f A) else encs fs f.tag (b ++ one f) := rfl
    rw [hd] at h ⊢
    by_cases hz : flt f A = 0
    · rw [hz, if_neg (by simp)] at h ⊢
      exact encs_err fs f.tag (b ++ one f) h
    · rw [if_pos hz]
theorem recs_back (fs : List Fld) (r : List Nat) (hn : ∀ f ∈ fs, f.num ≤ 18446744073709551615) (h : encs fs 0 [] = (r, 0)) : recs r = (fs.map norm, 0, 0) := by
  have hl := (encs_pre fs 0 [] r h).2
  unfold recs
  rw [if_neg (by omega)]
  have := encs_back fs 0 [] r hn h (r.length + 1) [] (by simp)
  simpa using this
end Go.Proofs.Ytdfknehdnkmlgaa
