/- Own texts, joined: Cn9. -/
import Derived.Test.YtmjppeljpifjpaaK26
import Derived.Test.YtmjppeljpifjpaaK00
import Derived.WalkSmall
import Derived.BigQuiet
namespace Go.Proofs.Ytmjppeljpifjpaa
open Go.ChangeShapes Go.WideShapes Go.ChangeAt Go.RowKit
set_option linter.unusedVariables false
set_option maxRecDepth 20000 in
theorem ln_self (a b c d : Int) (w : World) : (binOp .neq 38 (.agg #[.int .i64 a, .int .i64 b, .int .i64 c, .int .i64 d]) (.agg #[.int .i64 a, .int .i64 b, .int .i64 c, .int .i64 d])).run Try.prog w = .ok (.bool false) w := by
  rw [run_neq_struct]
  simp [go_sem, Try.underlying38]
set_option maxRecDepth 20000 in
theorem ln_diff (a b c d a' b' c' d' : Int) (w : World) (h : ¬ (a = a' ∧ b = b' ∧ c = c' ∧ d = d')) : (binOp .neq 38 (.agg #[.int .i64 a, .int .i64 b, .int .i64 c, .int .i64 d]) (.agg #[.int .i64 a', .int .i64 b', .int .i64 c', .int .i64 d'])).run Try.prog w = .ok (.bool true) w := by
  rw [run_neq_struct]
  simp [go_sem, Try.underlying38]
  by_cases h1 : a = a'
  · by_cases h2 : b = b'
    · by_cases h3 : c = c'
      · by_cases h4 : d = d'
        · exact absurd ⟨h1, h2, h3, h4⟩ h
        · simp [h1, h2, h3, h4]
      · simp [h1, h2, h3]
    · simp [h1, h2]
  · simp [h1]
theorem two_st (w : World) (s t : St) (v u : Value) : ∃ W, (w.alloc (.cells (stA s v) 27)).alloc (.cells (stA t u) 27) = W ∧ StAt W w.heap.size s v ∧ StAt W (w.heap.size + 1) t u ∧ Below w.heap.size w W := by
  refine ⟨_, rfl, (StAt.new w s v).after ((Below.refl _ _).alloc (Nat.le_refl _) _), ?_, ((Below.refl _ _).alloc (Nat.le_refl _) _).alloc (by simp) _⟩
  have := StAt.new (w.alloc (.cells (stA s v) 27)) t u
  simpa using this
theorem who_ne {x y : ByteArray} (h : x ≠ y) : (x.toList == y.toList) = false := by
  rw [beq_eq_false_iff_ne]
  intro h2
  rw [ByteArray.toList_eq, ByteArray.toList_eq] at h2
  exact h (ByteArray.ext (Array.toList_inj.1 h2))
end Go.Proofs.Ytmjppeljpifjpaa
