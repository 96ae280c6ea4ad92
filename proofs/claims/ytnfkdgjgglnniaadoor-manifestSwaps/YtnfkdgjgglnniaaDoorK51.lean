/- Own texts, joined: Fsk. -/
import Derived.Test.YtnfkdgjgglnniaaDoorK47
import Derived.Sort.OwnSorted
import Derived.Sort.KeysCollected
namespace Go.Proofs.YtnfkdgjgglnniaaDoor
open Go.ChangeShapes Go.WideShapes Go.ChangeAt Go.RowKit Go.Maps Go.Sort
set_option linter.unusedVariables false
set_option linter.unusedSimpArgs false
def namesN (L : List Fi) : List (List UInt8) := L.map (fun f => f.name)
theorem repN_keys {M : DataW Value} {L : List Fi} {w : World} {b n : Nat} (hr : RepN M L) (hs : SortN L) (hown : w.ownsMap Tryd.prog 9 hvS b n M) : (namesN L).Perm (strKeys M) := by
  obtain ⟨es, hD, hpw, _⟩ := hown.entries fs_keyed
  obtain ⟨es', hD', hko⟩ := hown.keysOf
  obtain rfl : es = es' := by rw [hD] at hD'; simpa using hD'
  subst hD
  refine perm_strKeys hpw (fun p hp => by obtain ⟨v, hv⟩ := hko p hp; obtain ⟨x, _, hx, _⟩ := Maps.keyOf_str Tryd.underlying9 hv; exact ⟨x, hx⟩) ?_ (fun x => ?_)
  · unfold namesN
    exact List.pairwise_map.2 (names_ne hs)
  · rw [hr.hs]
    unfold namesN
    constructor
    · intro hx
      obtain ⟨p, hp, rfl⟩ := List.mem_map.1 hx
      cases hg : getN L p.name with
      | some y => rfl
      | none => exact absurd rfl (getN_none.1 hg p hp)
    · intro hx
      cases hg : getN L x with
      | none => rw [hg] at hx; cases hx
      | some y => obtain ⟨h1, h2⟩ := getN_mem hg; exact List.mem_map.2 ⟨y, h1, h2⟩
theorem sort_names {L : List Fi} (hs : SortN L) {ss : List (List UInt8)} (hp : ss.Perm (namesN L)) : ss.mergeSort (fun x y => decide (x ≤ y)) = namesN L := by
  have h1 : ss.mergeSort leB = (namesN L).mergeSort leB := mergeSort_of_perm hp
  show ss.mergeSort leB = _
  rw [h1]
  refine List.mergeSort_of_pairwise ?_
  unfold namesN
  rw [List.pairwise_map]
  exact hs.imp (fun h => by simp only [leB, decide_eq_true_eq]; exact List.le_of_lt h)
end Go.Proofs.YtnfkdgjgglnniaaDoor
