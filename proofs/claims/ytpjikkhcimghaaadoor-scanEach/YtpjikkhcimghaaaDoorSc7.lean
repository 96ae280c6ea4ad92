/- Placed frames in memory; the reference's Same of two such lists that say the same. -/
import Derived.Test.YtpjikkhcimghaaaDoorSc6
import Derived.Test.YtpjikkhcimghaaaDoorFr6
import Derived.Deep.RegionHeld3
namespace Go.Proofs.YtpjikkhcimghaaaDoor
open Go.ChangeShapes Go.WideShapes Go.ChangeAt Go.RowKit Go.Shelf
set_option linter.unusedVariables false
theorem get_lt {α : Type} {L : List α} {k : Nat} {p : α} (h : L[k]? = some p) : k < L.length := (List.getElem?_eq_some_iff.1 h).1
theorem lt_get {α : Type} {L : List α} {k : Nat} (h : k < L.length) : ∃ p, L[k]? = some p := ⟨L[k], List.getElem?_eq_getElem h⟩
structure PlcA (w : World) (a : Option Addr) (xs : List It) : Prop where
  lie : xs = [] ∨ ∃ b off, a = some ⟨b, off, none⟩ ∧ b < w.heap.size ∧ ∀ j, j < xs.length * 5 → w.cell? ⟨b, off + j, none⟩ = (pflt xs)[j]?
  byt : ∀ x ∈ xs, ∃ a2 c2, x.bv = .slice a2 x.fm.body.length c2 ∧ Bytes w a2 x.fm.body ∧ x.fm.body.length ≤ maxLen
theorem PlcA.keep {w w' : World} {a : Option Addr} {xs : List It} (h : PlcA w a xs) (hb : Below w.heap.size w w') : PlcA w' a xs := by
  refine ⟨?_, fun x hx => ?_⟩
  · rcases h.lie with h1 | ⟨b, off, h1, h2, h3⟩
    · exact .inl h1
    · exact .inr ⟨b, off, h1, Nat.lt_of_lt_of_le h2 hb.size, fun j hj => (hb.cell (p := ⟨b, off + j, none⟩) h2).trans (h3 j hj)⟩
  · obtain ⟨a2, c2, h1, h2, h3⟩ := h.byt x hx
    exact ⟨a2, c2, h1, h2.keep hb, h3⟩
theorem OwnP.plc {w : World} {base : Nat} {v : Value} {xs : List It} (h : OwnP w base v xs) : ∃ a c, v = .slice a xs.length c ∧ PlcA w a xs := by
  have hby : ∀ x ∈ xs, ∃ a2 c2, x.bv = .slice a2 x.fm.body.length c2 ∧ Bytes w a2 x.fm.body ∧ x.fm.body.length ≤ maxLen := fun x hx => by
    obtain ⟨a2, c2, h1, h2, h3, h4, _⟩ := (h.2 x hx).shape
    exact ⟨a2, c2, h1, h4, Nat.le_trans h2 h3⟩
  rcases h.1.2 with ⟨h1, h2⟩ | ⟨g, cap, cur, h1, h3, h4, h5⟩
  · have : xs = [] := List.length_eq_zero_iff.1 h2
    subst this
    exact ⟨none, 0, h1, .inl rfl, hby⟩
  · refine ⟨_, cap, h1, .inr ⟨g, 0, rfl, lt_of_heap h4, fun j hj => ?_⟩, hby⟩
    have h' := h.1
    rw [h1] at h'
    rw [Nat.zero_add]
    exact h'.cellAt j hj
theorem pflt_get : ∀ (xs : List It) (k : Nat) (x : It), xs[k]? = some x → (pflt xs)[k * 5]? = some (.int .i64 (x.fm.pos : Int)) ∧ (pflt xs)[k * 5 + 1]? = some (.int .i64 ((x.fm.body.length : Int) + 20)) ∧ (pflt xs)[k * 5 + 2]? = some (.int .i64 (x.fm.kind : Int)) ∧ (pflt xs)[k * 5 + 3]? = some (.int .i64 (x.fm.seq : Int)) ∧ (pflt xs)[k * 5 + 4]? = some x.bv
  | [], k, x, h => by simp at h
  | y :: r, 0, x, h => by simp at h; subst h; simp [pflt]
  | y :: r, k + 1, x, h => by
    have := pflt_get r k x (by simpa using h)
    rw [show (k + 1) * 5 = k * 5 + 5 from by omega]
    simpa [pflt] using this
theorem PlcA.at {w : World} {a : Option Addr} {xs : List It} (h : PlcA w a xs) (k : Nat) (x : It) (hx : xs[k]? = some x) : ∃ b off, a = some ⟨b, off, none⟩ ∧ b < w.heap.size ∧ w.cell? ⟨b, off + k * 5, none⟩ = some (.int .i64 (x.fm.pos : Int)) ∧ w.cell? ⟨b, off + k * 5 + 1, none⟩ = some (.int .i64 ((x.fm.body.length : Int) + 20)) ∧ w.cell? ⟨b, off + k * 5 + 2, none⟩ = some (.int .i64 (x.fm.kind : Int)) ∧ w.cell? ⟨b, off + k * 5 + 3, none⟩ = some (.int .i64 (x.fm.seq : Int)) ∧ w.cell? ⟨b, off + k * 5 + 4, none⟩ = some x.bv := by
  have hk := get_lt hx
  obtain ⟨f0, f1, f2, f3, f4⟩ := pflt_get xs k x hx
  rcases h.lie with rfl | ⟨b, off, h1, h2, h3⟩
  · simp at hk
  · exact ⟨b, off, h1, h2, (h3 (k * 5) (by omega)).trans f0, (h3 (k * 5 + 1) (by omega)).trans f1, (h3 (k * 5 + 2) (by omega)).trans f2, (h3 (k * 5 + 3) (by omega)).trans f3, (h3 (k * 5 + 4) (by omega)).trans f4⟩
end Go.Proofs.YtpjikkhcimghaaaDoor
