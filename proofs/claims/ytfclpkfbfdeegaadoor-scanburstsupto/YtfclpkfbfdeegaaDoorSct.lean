/- Laid frames that are torn: lists. -/
import Derived.Test.YtfclpkfbfdeegaaDoorSc16
namespace Go.Proofs.YtfclpkfbfdeegaaDoor.scanTorn
open Go.ChangeShapes Go.WideShapes Go.ChangeAt Go.RowKit
set_option linter.unusedVariables false
theorem row_cap {w : World} {base n c size : Nat} {e : TypeId} {a : Option Addr} {xs : List Value} (h : w.ownsRow base e size (.slice a n c) n xs) : n ≤ c := by
  rcases h.2 with ⟨h1, h2⟩ | ⟨g, cap, cur, h1, _, _, h2, _⟩
  · omega
  · cases h1; exact h2
theorem plc_of2 {w : World} {base N c : Nat} {a : Option Addr} {xs : List It} (h : OwnP w base (.slice a N c) xs) : PlcA w a xs := by
  obtain ⟨a2, c2, h1, h2⟩ := h.plc
  cases h1
  exact h2
theorem scan_cut (L : List Fi) (h : ∀ f ∈ L, Fok f.k.toNat f.s.toNat f.body) (k C : Nat) (h1 : (layF (L.take k)).length ≤ C) (h2 : (k = L.length ∧ C = (layF L).length) ∨ ∃ f, L[k]? = some f ∧ C < (layF (L.take (k + 1))).length) :
    scanL ((layF L).take C) = plF 0 (L.take k) ∧ endZ 0 (scanL ((layF L).take C)) = (layF (L.take k)).length ∧ allE ((layF L).take C) = if (layF (L.take k)).length = C then 0 else 60 := by
  rcases h2 with ⟨rfl, rfl⟩ | ⟨f, hf, h2⟩
  · have ht : L.take L.length = L := List.take_length
    rw [ht, List.take_of_length_le (Nat.le_refl _), if_pos rfl]
    have s1 := scan_plF [] L h
    obtain ⟨_, s2, s3⟩ := scan_lay [] L h
    rw [List.append_nil] at s1 s2 s3
    have e0 : scanL [] = [] := rfl
    rw [e0] at s1 s2
    exact ⟨by rw [s1]; simp, by rw [s2]; simp [endZ], by rw [s3]; rfl⟩
  · exact scan_torn L h k C f hf h1 h2
theorem take_le (L : List Fi) (k : Nat) : (layF (L.take k)).length ≤ (layF L).length := by
  have h : layF L = layF (L.take k) ++ layF (L.drop k) := by rw [← layF_append, List.take_append_drop]
  rw [h, List.length_append]
  omega
end Go.Proofs.YtfclpkfbfdeegaaDoor.scanTorn
