/- A scan of frames behind one another: lists alone. -/
import Derived.Test.YtfclpkfbfdeegaaDoorSc5
namespace Go.Proofs.YtfclpkfbfdeegaaDoor
open Go.ChangeShapes Go.WideShapes Go.ChangeAt Go.RowKit Go.Shelf
set_option linter.unusedVariables false
theorem scanN_shift (a l : List Nat) : ∀ (f p : Nat), scanN f (a ++ l) (a.length + p) = (scanN f l p).map (sh a.length)
  | 0, p => rfl
  | f + 1, p => by
    have hd : (a ++ l).drop (a.length + p) = l.drop p := by
      rw [List.drop_append, List.drop_eq_nil_of_le (by omega), List.nil_append]
      congr 1
      omega
    unfold scanN
    rw [hd]
    by_cases h : p < l.length ∧ decE (l.drop p) = 0
    · rw [if_pos h, if_pos (by rw [List.length_append]; exact ⟨by omega, h.2⟩), List.map_cons, Nat.add_assoc, scanN_shift a l f]
      rfl
    · rw [if_neg h, if_neg (by rw [List.length_append]; rintro ⟨h1, h2⟩; exact h ⟨by omega, h2⟩)]
      rfl
theorem scanAt_shift (a l : List Nat) : scanAt (a ++ l) a.length = (scanL l).map (sh a.length) := by
  unfold scanAt scanL
  have h := scanN_shift a l (l.length + 1) 0
  rw [Nat.add_zero] at h
  rw [← h]
  exact scanN_fuel _ _ _ _ (by omega) (by rw [List.length_append]; omega)
/-- a frame that can be laid -/
structure Fok (k s : Nat) (body : List Nat) : Prop where
  byt : ∀ y ∈ body, y < 256
  k1 : 1 ≤ k
  k7 : k ≤ 7
  len : body.length ≤ 16384
  seq : s ≤ 1099511627776
theorem scanL_frame {k s : Nat} {body : List Nat} (h : Fok k s body) (r : List Nat) : scanL (frameL k s body ++ r) = ⟨0, k, s, body⟩ :: (scanL r).map (sh (body.length + 20)) := by
  obtain ⟨h1, h2, h3, h4, h5⟩ := dec_laid k s body r h.byt h.k1 h.k7 h.len h.seq
  have hst := scanAt_step (frameL k s body ++ r) 0 (by rw [List.length_append, frameL_length]; omega) (by rw [List.drop_zero]; exact h1)
  rw [List.drop_zero, h2, h3, h4, h5, Nat.zero_add] at hst
  have hsh := scanAt_shift (frameL k s body) r
  rw [frameL_length] at hsh
  rw [hsh] at hst
  exact hst
theorem endZ_map (d : Nat) (L : List Fm) : endZ d (L.map (sh d)) = d + endZ 0 L := by
  unfold endZ
  rw [List.getLast?_map]
  cases L.getLast? with
  | none => simp
  | some f => simp only [Option.map_some, sh]; omega
theorem endZ_cons (z : Nat) (f : Fm) (L : List Fm) : endZ z (f :: L) = endZ (f.pos + f.body.length + 20) L := by
  cases L with
  | nil => simp [endZ]
  | cons g r => simp [endZ, List.getLast?_cons_cons]; rfl
theorem end_frame {k s : Nat} {body : List Nat} (h : Fok k s body) (r : List Nat) : endZ 0 (scanL (frameL k s body ++ r)) = body.length + 20 + endZ 0 (scanL r) := by
  rw [scanL_frame h, endZ_cons]
  simp only [Nat.zero_add]
  exact endZ_map _ _
theorem allE_frame {k s : Nat} {body : List Nat} (h : Fok k s body) (r : List Nat) : allE (frameL k s body ++ r) = allE r := by
  unfold allE
  rw [end_frame h, List.length_append, frameL_length]
  have hd : (frameL k s body ++ r).drop (body.length + 20 + endZ 0 (scanL r)) = r.drop (endZ 0 (scanL r)) := by
    rw [List.drop_append, List.drop_eq_nil_of_le (by rw [frameL_length]; omega), List.nil_append, frameL_length]
    congr 1
    omega
  rw [hd]
  by_cases he : endZ 0 (scanL r) = r.length
  · rw [if_pos he, if_pos (by omega)]
  · rw [if_neg he, if_neg (by omega)]
/-- a frame torn at any byte is none -/
theorem scanL_torn {k s : Nat} {body : List Nat} (h : Fok k s body) (m : Nat) (hm : m < body.length + 20) : scanL ((frameL k s body).take m) = [] ∧ allE ((frameL k s body).take m) = if m = 0 then 0 else 60 := by
  have hd := dec_short k s m body h.byt h.k1 h.k7 h.len h.seq hm
  have hs : scanL ((frameL k s body).take m) = [] := scanAt_end _ 0 (by rw [List.drop_zero, hd]; rintro ⟨_, h2⟩; cases h2)
  refine ⟨hs, ?_⟩
  unfold allE
  rw [hs]
  have hl : ((frameL k s body).take m).length = m := by rw [List.length_take, frameL_length]; omega
  rw [hl]
  show (if 0 = m then 0 else decE (((frameL k s body).take m).drop 0)) = _
  rw [List.drop_zero, hd]
  by_cases h0 : m = 0
  · rw [if_pos h0, if_pos h0.symm]
  · rw [if_neg h0, if_neg (fun e => h0 e.symm)]
end Go.Proofs.YtfclpkfbfdeegaaDoor
