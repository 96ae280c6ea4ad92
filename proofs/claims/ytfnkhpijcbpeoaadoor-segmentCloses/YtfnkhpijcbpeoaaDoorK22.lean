/- Own texts, joined: Sc9, Sc10. -/
import Derived.Test.YtfnkhpijcbpeoaaDoorK20
import Derived.Test.YtfnkhpijcbpeoaaDoorK21
namespace Go.Proofs.YtfnkhpijcbpeoaaDoor
open Go.ChangeShapes Go.WideShapes Go.ChangeAt Go.RowKit Go.Shelf
set_option linter.unusedVariables false
def hdL : List Nat := frameL 1 5 [0] ++ frameL 1 6 [1]
def hdN : List Nat := [165, 1, 1, 0, 5, 0, 0, 0, 0, 0, 0, 0]
set_option maxRecDepth 100000 in
theorem hd_len : hdL.length = 42 := by kernel_rfl
set_option maxRecDepth 100000 in
theorem hd_scan : scanL hdL = [⟨0, 1, 5, [0]⟩, ⟨21, 1, 6, [1]⟩] := by kernel_rfl
set_option maxRecDepth 100000 in
theorem hd_allE : allE hdL = 0 := by unfold allE; rw [hd_scan, hd_len]; rfl
theorem hd_run : runL hdL 0 5 1 = [⟨0, 1, 5, [0]⟩] := by
  unfold runL
  rw [List.drop_zero, hd_scan]
  rfl
theorem hd_end : endZ 0 (scanL hdL) = 42 := by rw [hd_scan]; rfl
def layL : Nat → List Nat
  | 0 => []
  | 1 => [] ++ frameL 1 5 [0]
  | _ => [] ++ frameL 1 5 [0] ++ frameL 1 6 [1]
end Go.Proofs.YtfnkhpijcbpeoaaDoor
namespace Go.Proofs.YtfnkhpijcbpeoaaDoor
open Go.ChangeShapes Go.WideShapes Go.ChangeAt Go.RowKit Go.Shelf
set_option linter.unusedVariables false
theorem OwnP.of {W : World} {base : Nat} {v : Value} {xs : List It} (h1 : W.ownsRow base 79 5 v xs.length (pflt xs)) (h2 : ∀ x ∈ xs, Own W base x.bv x.fm.body) : OwnP W base v xs := ⟨h1, h2⟩
theorem runN_len (first most : Int) : ∀ (L : List Fm) (i : Nat), (runN first most i L).length ≤ L.length
  | [], i => by simp [runN]
  | f :: L, i => by
    unfold runN
    split
    · simp
    · simp only [List.length_cons]; have := runN_len first most L (i + 1); omega
theorem runL_len (l : List Nat) (d : Nat) (first most : Int) : 20 * (runL l d first most).length ≤ l.length := by
  have h1 := runN_len first most (scanL (l.drop d)) 0
  have h2 := scanL_count (l.drop d)
  rw [List.length_drop] at h2
  unfold runL
  rw [List.length_map]
  omega
theorem two_items {xs : List It} {f g : Fm} (h : xs.map It.fm = [f, g]) : ∃ x0 x1 : It, xs = [x0, x1] ∧ x0.fm = f ∧ x1.fm = g := by
  cases xs with
  | nil => cases h
  | cons x0 r =>
    cases r with
    | nil => simp at h
    | cons x1 r =>
      cases r with
      | nil => simp at h; exact ⟨x0, x1, rfl, h.1, h.2⟩
      | cons x2 r => simp at h
theorem hd_end1 : endZ 0 [(⟨0, 1, 5, [0]⟩ : Fm)] = 21 := rfl
end Go.Proofs.YtfnkhpijcbpeoaaDoor
