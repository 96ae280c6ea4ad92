/- What varint.DecodeAll and the reference's DecodeAll answer. -/
import Derived.Test.YtifackbilmkjlabDec
import Derived.Test.YtifackbilmkjlabVmath
namespace Go.Proofs.Ytifackbilmkjlab
open Go.ChangeShapes Go.WideShapes Go.ChangeAt Go.RowKit
set_option linter.unusedVariables false
def decN : Nat → List Nat → Nat → List Nat → List Nat × Nat × Nat
  | 0, _, p, acc => (acc, p, 0)
  | c + 1, l, p, acc => if (dec 0 0 (l.drop p)).2.2 = 0 then decN c l (p + (dec 0 0 (l.drop p)).2.1) (acc ++ [(dec 0 0 (l.drop p)).1]) else ([], 0, (dec 0 0 (l.drop p)).2.2)
def decAll (l : List Nat) (most : Int) : List Nat × Nat × Nat :=
  if (dec 0 0 l).2.2 ≠ 0 then ([], 0, (dec 0 0 l).2.2) else if most.toNat < (dec 0 0 l).1 then ([], 0, 24) else decN (dec 0 0 l).1 l (dec 0 0 l).2.1 []
theorem decN_succ (c : Nat) (l : List Nat) (p : Nat) (acc : List Nat) (u k e : Nat) (h : dec 0 0 (l.drop p) = (u, k, e)) : decN (c + 1) l p acc = if e = 0 then decN c l (p + k) (acc ++ [u]) else ([], 0, e) := by
  show (if (dec 0 0 (l.drop p)).2.2 = 0 then _ else _) = _
  rw [h]
def B64 (l : List Nat) : List Value := l.map fun (n : Nat) => Value.int .u64 (n : Int)
theorem B64_append (l m : List Nat) : B64 (l ++ m) = B64 l ++ B64 m := by simp [B64]
def Own64 (w : World) (base : Nat) (v : Value) (l : List Nat) : Prop := (∀ i, l.getD i 0 < 18446744073709551616) ∧ w.ownsRow base 46 1 v l.length (B64 l)
theorem B64_get (l : List Nat) (i : Nat) (h : i < l.length) : (B64 l)[i]? = some (.int .u64 (l.getD i 0 : Nat)) := by
  simp [B64, h]
theorem Own64.slice {w : World} {base : Nat} {v : Value} {l : List Nat} (h : Own64 w base v l) : ∃ a cap, v = .slice a l.length cap ∧ Nums w a l := by
  obtain ⟨h0, h1, h2⟩ := h
  rcases h2 with ⟨rfl, hn⟩ | ⟨g, cap, cur, rfl, hb, hg, hnc, hcm, hcs, htake⟩
  · have : l = [] := List.length_eq_zero_iff.1 hn
    subst this
    exact ⟨none, 0, rfl, h0, .inl rfl⟩
  · have hlt : g < w.heap.size := by
      by_cases hh : g < w.heap.size
      · exact hh
      · rw [Array.getElem?_eq_none (by omega)] at hg; cases hg
    have ho : w.ownsRow base 46 1 (.slice (some ⟨g, 0, none⟩) l.length cap) l.length (B64 l) := ⟨h1, .inr ⟨g, cap, cur, rfl, hb, hg, hnc, hcm, hcs, htake⟩⟩
    refine ⟨some ⟨g, 0, none⟩, cap, rfl, h0, .inr ⟨g, 0, rfl, hlt, fun i hi => ?_⟩⟩
    rw [Nat.zero_add, ho.cellAt i (by omega), B64_get l i hi]
theorem own64_nil (w : World) (base : Nat) : Own64 w base (.slice none 0 0) [] := ⟨by simp, World.ownsRow_nil w base _ 1⟩
theorem Own64.snoc {w : World} {base : Nat} {v : Value} {l : List Nat} {u : Nat} (hl : ∀ i, l.getD i 0 < 18446744073709551616) (hu : u < 18446744073709551616) (h : w.ownsRow base 46 1 v (l.length + 1) (B64 l ++ [.int .u64 (u : Int)])) : Own64 w base v (l ++ [u]) := by
  refine ⟨fun i => ?_, by rw [List.length_append, B64_append]; exact h⟩
  have h1 := hl i
  rw [List.getD_eq_getElem?_getD] at h1 ⊢
  rw [List.getElem?_append]
  split
  · exact h1
  · cases i - l.length with
    | zero => simpa using hu
    | succ n => simp
theorem Try.info64 : (Try.prog.info? 46).map (fun i => (i.zero, i.size, i.bytes)) = some (some (.int .u64 0), 1, 8) := by kernel_rfl
theorem ret3v {v : Value} {b c b' c' : Int} (h2 : b = b') (h3 : c = c') : Ending.returned (.tuple #[v, .int .i64 b, .int .i64 c]) = .returned (.tuple #[v, .int .i64 b', .int .i64 c']) := by rw [h2, h3]
end Go.Proofs.Ytifackbilmkjlab
