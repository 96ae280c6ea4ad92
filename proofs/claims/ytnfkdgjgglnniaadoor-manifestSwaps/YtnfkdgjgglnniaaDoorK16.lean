/- Own texts, joined: Fr6. -/
import Derived.Test.YtnfkdgjgglnniaaDoorK06
import Derived.Test.YtnfkdgjgglnniaaDoorK15
import Derived.Test.YtnfkdgjgglnniaaDoorK08
namespace Go.Proofs.YtnfkdgjgglnniaaDoor
open Go.ChangeShapes Go.WideShapes Go.ChangeAt Go.RowKit
set_option linter.unusedVariables false
theorem cells_four (w : World) (x y z t : Value) (e : TypeId) : ∀ j u, [x, y, z, t][j]? = some u → (w.alloc (.cells #[x, y, z, t] e)).cell? ((⟨w.heap.size, 0, none⟩ : Addr).add j) = some u := by
  intro j u hj
  match j, hj with
  | 0, hj => simp at hj; subst hj; simp [Addr.add]
  | 1, hj => simp at hj; subst hj; simp [Addr.add]
  | 2, hj => simp at hj; subst hj; simp [Addr.add]
  | 3, hj => simp at hj; subst hj; simp [Addr.add]
theorem own_lit (w : World) (l : List Nat) (h : ∀ i, l.getD i 0 < 256) (hm : l.length ≤ maxLen) : Own (w.alloc (.cells (B8 l).toArray 5)) w.heap.size (.slice (some ⟨w.heap.size, 0, none⟩) l.length l.length) l :=
  ⟨h, own_of_heap (Nat.le_refl _) hm (by simp [B8]) (by simp only [World.alloc, Array.getElem?_push]; rw [if_pos trivial])⟩
end Go.Proofs.YtnfkdgjgglnniaaDoor
