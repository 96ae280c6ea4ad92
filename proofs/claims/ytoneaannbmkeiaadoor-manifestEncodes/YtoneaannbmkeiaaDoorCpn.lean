/- daybookref02's Copy and Same, at letters. -/
import Derived.Test.YtoneaannbmkeiaaDoorCopy
import Derived.Test.YtoneaannbmkeiaaDoorSame
import Derived.Test.YtoneaannbmkeiaaDoorNb
namespace Go.Proofs.YtoneaannbmkeiaaDoor
open Go.ChangeShapes Go.WideShapes Go.ChangeAt Go.RowKit
set_option linter.unusedVariables false
theorem bel_drewN {B : Nat} {a w : World} (h : Below B a w) (n : Nat) : Below B a (w.drewN n) := by
  induction n with
  | zero => exact h
  | succ n ih => exact ih.drew
theorem copy_nn (l : List Nat) (a : Option Addr) (n cap : Nat) (w : World) (hn : l.length = n) (hb : Bytes w a l) (hl : n ≤ 281474976710656) :
    Calls Tryd.prog 14 #[.slice a n cap] w fun e w' => ∃ a2 cap2, e = .returned (.slice a2 n cap2) ∧ n ≤ cap2 ∧ Bytes w' a2 l ∧ Own w' w.heap.size (.slice a2 n cap2) l ∧ Below w.heap.size w w' := by
  subst hn
  refine (copy_any l a cap w hb hl).mono ?_
  rintro e w' ⟨v, rfl, ho, hb'⟩
  obtain ⟨a2, cap2, rfl, h1, _, h3, _⟩ := ho.shape
  exact ⟨a2, cap2, rfl, h1, h3, ho, hb'⟩
theorem same_yes (l : List Nat) (n1 n2 : Nat) (a1 a2 : Option Addr) (c1 c2 : Nat) (w : World) (e1 : l.length = n1) (e2 : l.length = n2) (hb1 : Bytes w a1 l) (hb2 : Bytes w a2 l) (hl : n1 ≤ maxLen) :
    Calls Tryd.prog 10 #[.slice a1 n1 c1, .slice a2 n2 c2] w fun e w' => e = .returned (.bool true) ∧ Below w.heap.size w w' := by
  refine (same_at l l n1 n2 a1 a2 c1 c2 w e1 e2 hb1 hb2 (by rw [e1]; exact hl) (by rw [e1]; exact hl)).mono ?_
  rw [decide_eq_true rfl]
  rintro e w' ⟨rfl, m, rfl⟩
  exact ⟨rfl, bel_drewN (Below.refl _ _) m⟩
theorem same_no (l m : List Nat) (n1 n2 : Nat) (a1 a2 : Option Addr) (c1 c2 : Nat) (w : World) (hne : l ≠ m) (e1 : l.length = n1) (e2 : m.length = n2) (hb1 : Bytes w a1 l) (hb2 : Bytes w a2 m) (hl : n1 ≤ maxLen) (hm : n2 ≤ maxLen) :
    Calls Tryd.prog 10 #[.slice a1 n1 c1, .slice a2 n2 c2] w fun e w' => e = .returned (.bool false) ∧ Below w.heap.size w w' := by
  refine (same_at l m n1 n2 a1 a2 c1 c2 w e1 e2 hb1 hb2 (by rw [e1]; exact hl) (by rw [e2]; exact hm)).mono ?_
  rw [decide_eq_false hne]
  rintro e w' ⟨rfl, m, rfl⟩
  exact ⟨rfl, bel_drewN (Below.refl _ _) m⟩
end Go.Proofs.YtoneaannbmkeiaaDoor
