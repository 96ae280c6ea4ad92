/- Scans of laid frames, frame by frame; laid frames torn at any byte: lists alone. -/
import Derived.Test.YtfclpkfbfdeegaaDoorSc15
namespace Go.Proofs.YtfclpkfbfdeegaaDoor
open Go.ChangeShapes Go.WideShapes Go.ChangeAt Go.RowKit Go.Shelf
set_option linter.unusedVariables false
/-- the frames of a list, the first one at p -/
def plF : Nat → List Fi → List Fm
  | _, [] => []
  | p, f :: r => ⟨p, f.k.toNat, f.s.toNat, f.body⟩ :: plF (p + (f.body.length + 20)) r
theorem plF_len : ∀ (p : Nat) (L : List Fi), (plF p L).length = L.length
  | _, [] => rfl
  | p, f :: r => by simp only [plF, List.length_cons, plF_len]
theorem plF_shift (d : Nat) : ∀ (p : Nat) (L : List Fi), (plF p L).map (sh d) = plF (d + p) L
  | _, [] => rfl
  | p, f :: r => by
    simp only [plF, List.map_cons, plF_shift d (p + (f.body.length + 20)) r]
    rw [Nat.add_assoc]
    rfl
theorem plF_get : ∀ (L : List Fi) (p i : Nat) (f : Fi), L[i]? = some f → ∃ q, (plF p L)[i]? = some ⟨q, f.k.toNat, f.s.toNat, f.body⟩
  | g :: L, p, 0, f, h => by simp at h; subst h; exact ⟨p, rfl⟩
  | g :: L, p, i + 1, f, h => by
    obtain ⟨q, hq⟩ := plF_get L (p + (g.body.length + 20)) i f (by simpa using h)
    exact ⟨q, by simpa [plF] using hq⟩
theorem scan_plF (r : List Nat) : ∀ (L : List Fi), (∀ f ∈ L, Fok f.k.toNat f.s.toNat f.body) → scanL (layF L ++ r) = plF 0 L ++ (scanL r).map (sh (layF L).length)
  | [], _ => by
    simp only [layF, plF, List.nil_append, List.length_nil]
    rw [show sh 0 = id from by funext f; simp [sh], List.map_id]
  | f :: L, h => by
    have ih := scan_plF r L (fun g hg => h g (List.mem_cons_of_mem _ hg))
    have hf := h f (List.mem_cons_self ..)
    have e : layF (f :: L) ++ r = fL f ++ (layF L ++ r) := by simp [layF, List.append_assoc]
    have hl : (layF (f :: L)).length = f.body.length + 20 + (layF L).length := by simp only [layF, fL, List.length_append, frameL_length]
    rw [e, hl]
    unfold fL
    rw [scanL_frame hf, ih, List.map_append, plF_shift, List.map_map]
    simp only [plF, List.cons_append, Nat.add_zero, Nat.zero_add]
    congr 3
    funext g
    simp only [sh, Function.comp]
    congr 1
    omega
/-- torn within the k-th -/
theorem take_lay (L : List Fi) (k cut : Nat) (f : Fi) (hf : L[k]? = some f) (h1 : (layF (L.take k)).length ≤ cut) (h2 : cut < (layF (L.take (k + 1))).length) : (layF L).take cut = layF (L.take k) ++ (fL f).take (cut - (layF (L.take k)).length) := by
  have hk := get_lt hf
  have e1 : L = L.take k ++ f :: L.drop (k + 1) := by
    have h := (List.take_append_drop k L).symm
    rw [List.drop_eq_getElem_cons hk, (List.getElem?_eq_some_iff.1 hf).2] at h
    exact h
  have e2 : L.take (k + 1) = L.take k ++ [f] := by rw [List.take_add_one, hf]; rfl
  have hl : (layF (L.take (k + 1))).length = (layF (L.take k)).length + (fL f).length := by rw [e2, layF_append, List.length_append]; simp [layF]
  have e3 : layF L = layF (L.take k) ++ (fL f ++ layF (L.drop (k + 1))) := by
    conv => lhs; rw [e1]
    rw [layF_append]
    rfl
  rw [e3, List.take_append, List.take_of_length_le h1, List.take_append]
  rw [show cut - (layF (L.take k)).length - (fL f).length = 0 from by omega, List.take_zero, List.append_nil]
/-- what scan.All finds in laid frames that are torn at a byte -/
theorem scan_torn (L : List Fi) (h : ∀ f ∈ L, Fok f.k.toNat f.s.toNat f.body) (k cut : Nat) (f : Fi) (hf : L[k]? = some f) (h1 : (layF (L.take k)).length ≤ cut) (h2 : cut < (layF (L.take (k + 1))).length) :
    scanL ((layF L).take cut) = plF 0 (L.take k) ∧ endZ 0 (scanL ((layF L).take cut)) = (layF (L.take k)).length ∧ allE ((layF L).take cut) = if (layF (L.take k)).length = cut then 0 else 60 := by
  have hok : ∀ g ∈ L.take k, Fok g.k.toNat g.s.toNat g.body := fun g hg => h g (List.mem_of_mem_take hg)
  have hfo := h f (List.mem_of_getElem? hf)
  have e2 : L.take (k + 1) = L.take k ++ [f] := by rw [List.take_add_one, hf]; rfl
  have hl : (layF (L.take (k + 1))).length = (layF (L.take k)).length + (f.body.length + 20) := by rw [e2, layF_append, List.length_append]; simp [layF, fL, frameL_length]
  obtain ⟨t1, t2⟩ := scanL_torn hfo (cut - (layF (L.take k)).length) (by omega)
  rw [take_lay L k cut f hf h1 h2]
  obtain ⟨_, s2, s3⟩ := scan_lay ((fL f).take (cut - (layF (L.take k)).length)) (L.take k) hok
  have s1 := scan_plF ((fL f).take (cut - (layF (L.take k)).length)) (L.take k) hok
  unfold fL at s1 s2 s3 ⊢
  rw [t1] at s1 s2
  refine ⟨by rw [s1]; simp, by rw [s2]; simp [endZ], ?_⟩
  rw [s3, t2]
  by_cases hc : (layF (L.take k)).length = cut
  · rw [if_pos hc, if_pos (by omega)]
  · rw [if_neg hc, if_neg (by omega)]
end Go.Proofs.YtfclpkfbfdeegaaDoor
