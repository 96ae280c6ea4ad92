/- Own texts, joined: RChkE. -/
import Derived.Test.YtmjppeljpifjpaaGreatK50
import Derived.Test.YtmjppeljpifjpaaGreatK52
import Derived.Test.YtmjppeljpifjpaaGreatK54
import Derived.Test.YtmjppeljpifjpaaGreatK10
namespace Go.Proofs.YtmjppeljpifjpaaGreat
open Go.ChangeShapes Go.WideShapes Go.ChangeAt Go.RowKit
set_option linter.unusedVariables false
set_option maxRecDepth 20000 in
theorem rcheck_no (v : Int) (e : Ev) (w : World) (h : v < 1 ∨ 5 < v) :
    Calls Tryz.prog 29 #[.int .i64 v, .agg (evA e)] w fun x w' => x = .returned (.int .i64 30) ∧ Below w.heap.size w w' := by
  by_cases h1 : v < 1
  · go_enter Tryz.func29, Tryz.ntmps29
    go_wp2
    go_ret
    exact ⟨rfl, (Below.refl _ _).alloc (Nat.le_refl _) _⟩
  · have h2 : 5 < v := by omega
    have d1 : decide (v < 1) = false := by simp; omega
    clear h
    go_enter Tryz.func29, Tryz.ntmps29
    go_wp2
    go_ret
    exact ⟨rfl, (Below.refl _ _).alloc (Nat.le_refl _) _⟩
theorem rcheck_ev (v : Int) (e : Ev) (w : World) :
    Calls Tryz.prog 29 #[.int .i64 v, .agg (evA e)] w fun x w' => x = .returned (.int .i64 (chk v e)) ∧ Below w.heap.size w w' := by
  by_cases h : v < 1 ∨ 5 < v
  · rw [show chk v e = 30 from if_pos h]
    exact rcheck_no v e w h
  · have hv : v = 1 ∨ v = 2 ∨ v = 3 ∨ v = 4 ∨ v = 5 := by omega
    rcases hv with rfl | rfl | rfl | rfl | rfl
    · exact rcheck1 e.kind e.order e.item e.qty e.price e.cur e.tax e.who e.stamp e.note w
    · exact rcheck2 e.kind e.order e.item e.qty e.price e.cur e.tax e.who e.stamp e.note w
    · exact rcheck3 e.kind e.order e.item e.qty e.price e.cur e.tax e.who e.stamp e.note w
    · exact rcheck4 e.kind e.order e.item e.qty e.price e.cur e.tax e.who e.stamp e.note w
    · exact rcheck5 e.kind e.order e.item e.qty e.price e.cur e.tax e.who e.stamp e.note w
end Go.Proofs.YtmjppeljpifjpaaGreat
