/- Laid frames of which one has a run of turned bits: lists alone. -/
import Derived.Test.YtfclpkfbfdeegaaDoorSc16
import Derived.Test.YtfclpkfbfdeegaaDoorFrb
namespace Go.Proofs.YtfclpkfbfdeegaaDoor
open Go.ChangeShapes Go.WideShapes Go.ChangeAt Go.RowKit Go.Shelf
set_option linter.unusedVariables false
theorem getD_app (t r : List Nat) (i : Nat) (h : i < t.length) : (t ++ r).getD i 0 = t.getD i 0 := by
  rw [List.getD_eq_getElem?_getD, List.getElem?_append_left h, ← List.getD_eq_getElem?_getD]
theorem take_app (t r : List Nat) (i : Nat) (h : i ≤ t.length) : (t ++ r).take i = t.take i := by
  rw [List.take_append, show i - t.length = 0 from by omega, List.take_zero, List.append_nil]
theorem peek_more (t r : List Nat) (h : 16 ≤ t.length) : peekE (t ++ r) = peekE t ∧ pn (t ++ r) = pn t := by
  have e0 := getD_app t r 0 (by omega)
  have e1 : pk (t ++ r) = pk t := getD_app t r 1 (by omega)
  have e2 : pn (t ++ r) = pn t := by unfold pn; rw [getD_app t r 2 (by omega), getD_app t r 3 (by omega)]
  have e3 : ps (t ++ r) = ps t := by
    unfold ps
    rw [List.drop_append, show 4 - t.length = 0 from by omega, List.drop_zero, take_app _ _ _ (by rw [List.length_drop]; omega)]
  have e4 := take_app t r 16 h
  have e5 : ¬ (t ++ r).length < 16 := by rw [List.length_append]; omega
  have e6 : ¬ t.length < 16 := by omega
  refine ⟨?_, e2⟩
  unfold peekE
  rw [e0, e1, e2, e3, e4, if_neg e5, if_neg e6]
theorem dec_more (t r : List Nat) (h : decE t = 61 ∨ decE t = 62) : decE (t ++ r) = decE t := by
  have h16 : 16 ≤ t.length := by
    apply Decidable.byContradiction
    intro hc
    have hp : peekE t = 60 := by unfold peekE; rw [if_pos (by omega)]
    unfold decE at h
    rw [hp, if_pos (by omega)] at h
    omega
  obtain ⟨e1, e2⟩ := peek_more t r h16
  unfold decE at h ⊢
  rw [e1, e2]
  by_cases hp : peekE t = 0
  · have hn0 : ¬ peekE t ≠ 0 := by omega
    rw [if_neg hn0] at h
    rw [if_neg hn0, if_neg hn0]
    by_cases hl : t.length < pn t + 20
    · rw [if_pos hl] at h; omega
    · rw [if_neg hl, if_neg (by rw [List.length_append]; omega), take_app t r _ (by omega)]
  · rw [if_pos hp, if_pos hp]
/-- what scan.All finds in laid frames of which the k-th is turned into one that is none -/
theorem scan_turned (L : List Fi) (h : ∀ f ∈ L, Fok f.k.toNat f.s.toNat f.body) (t r : List Nat) (ht : decE t = 61 ∨ decE t = 62) :
    scanL (layF L ++ (t ++ r)) = plF 0 L ∧ endZ 0 (scanL (layF L ++ (t ++ r))) = (layF L).length ∧ allE (layF L ++ (t ++ r)) = decE t := by
  have hd := dec_more t r ht
  have h0 : scanL (t ++ r) = [] := scanAt_end _ 0 (by rw [List.drop_zero, hd]; rintro ⟨_, h2⟩; omega)
  have s1 := scan_plF (t ++ r) L h
  obtain ⟨_, s2, s3⟩ := scan_lay (t ++ r) L h
  rw [h0] at s1 s2
  refine ⟨by rw [s1]; simp, by rw [s2]; simp [endZ], ?_⟩
  rw [s3]
  unfold allE
  rw [h0]
  show (if 0 = (t ++ r).length then 0 else decE ((t ++ r).drop 0)) = _
  rw [List.drop_zero, hd, if_neg]
  intro hz
  have : t = [] := by
    have : (t ++ r).length = 0 := hz.symm
    rw [List.length_append] at this
    exact List.length_eq_zero_iff.1 (by omega)
  subst this
  revert ht
  decide
theorem lay_split (L : List Fi) (k : Nat) (f : Fi) (hf : L[k]? = some f) : layF L = layF (L.take k) ++ (fL f ++ layF (L.drop (k + 1))) ∧ (layF (L.take (k + 1))).length = (layF (L.take k)).length + (fL f).length := by
  have hk := get_lt hf
  have e1 : L = L.take k ++ f :: L.drop (k + 1) := by
    have h := (List.take_append_drop k L).symm
    rw [List.drop_eq_getElem_cons hk, (List.getElem?_eq_some_iff.1 hf).2] at h
    exact h
  have e2 : L.take (k + 1) = L.take k ++ [f] := by rw [List.take_add_one, hf]; rfl
  refine ⟨?_, by rw [e2, layF_append, List.length_append]; simp [layF]⟩
  conv => lhs; rw [e1]
  rw [layF_append]
  rfl
end Go.Proofs.YtfclpkfbfdeegaaDoor
