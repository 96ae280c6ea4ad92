/- Marks: as lists, in memory, rows of a call's own. -/
import Derived.Test.YtifackbilmkjlabRows
import Derived.Test.YtifackbilmkjlabNb
namespace Go.Proofs.Ytifackbilmkjlab
open Go.ChangeShapes Go.WideShapes Go.ChangeAt Go.RowKit
set_option linter.unusedVariables false
/-- a mark: its number, its place -/
abbrev Mk := Int × Int
/-- the cells of a list of marks -/
def mfl : List Mk → List Value
  | [] => []
  | p :: r => .int .i64 p.1 :: .int .i64 p.2 :: mfl r
theorem mfl_append : ∀ (L M : List Mk), mfl (L ++ M) = mfl L ++ mfl M
  | [], M => rfl
  | p :: r, M => by simp only [List.cons_append, mfl, mfl_append r M]
theorem mfl_length : ∀ (L : List Mk), (mfl L).length = L.length * 2
  | [] => rfl
  | p :: r => by simp only [mfl, List.length_cons, mfl_length r]; omega
theorem mfl_one : ∀ (L : List Mk), ∀ u ∈ mfl L, u.oneCell' = true
  | [], u, h => by cases h
  | p :: r, u, h => by
    simp only [mfl, List.mem_cons] at h
    rcases h with rfl | rfl | h
    · rfl
    · rfl
    · exact mfl_one r u h
theorem mfl_get : ∀ (L : List Mk) (k : Nat) (p : Mk), L[k]? = some p → (mfl L)[k * 2]? = some (.int .i64 p.1) ∧ (mfl L)[k * 2 + 1]? = some (.int .i64 p.2)
  | q :: r, 0, p, h => by simp at h; subst h; exact ⟨rfl, rfl⟩
  | q :: r, k + 1, p, h => by
    have := mfl_get r k p (by simpa using h)
    rw [show (k + 1) * 2 = k * 2 + 2 from by omega]
    simpa [mfl] using this
  | [], k, p, h => by simp at h
theorem lt_of_get {α : Type} {L : List α} {k : Nat} {p : α} (h : L[k]? = some p) : k < L.length := by
  by_cases hh : k < L.length
  · exact hh
  · rw [List.getElem?_eq_none (by omega)] at h; cases h
theorem drop_get {α : Type} (L : List α) (k : Nat) (p : α) (h : L[k]? = some p) : L.drop k = p :: L.drop (k + 1) := by
  have hk := lt_of_get h
  rw [List.drop_eq_getElem_cons hk]
  rw [List.getElem?_eq_getElem hk] at h
  cases h; rfl
theorem take_get {α : Type} (L : List α) (k : Nat) (p : α) (h : L[k]? = some p) : L.take (k + 1) = L.take k ++ [p] := by
  have hk := lt_of_get h
  rw [List.take_succ_eq_append_getElem hk]
  rw [List.getElem?_eq_getElem hk] at h
  cases h; rfl
theorem get_of_lt {α : Type} {L : List α} {k : Nat} (h : k < L.length) : ∃ p, L[k]? = some p := ⟨_, List.getElem?_eq_getElem h⟩
/-- the marks L lie from address a on -/
def Marks (w : World) (a : Option Addr) (L : List Mk) : Prop :=
  L = [] ∨ ∃ b off, a = some ⟨b, off, none⟩ ∧ b < w.heap.size ∧ ∀ j, j < L.length * 2 → w.cell? ⟨b, off + j, none⟩ = (mfl L)[j]?
theorem Marks.keep {w w' : World} {a : Option Addr} {L : List Mk} (h : Marks w a L) (hb : Below w.heap.size w w') : Marks w' a L := by
  rcases h with h1 | ⟨b, off, h1, h2, h3⟩
  · exact .inl h1
  · exact .inr ⟨b, off, h1, Nat.lt_of_lt_of_le h2 hb.size, fun j hj => (hb.cell (p := ⟨b, off + j, none⟩) h2).trans (h3 j hj)⟩
theorem Marks.cells {w : World} {b off : Nat} {L : List Mk} (h : ∀ j, j < L.length * 2 → w.cell? ⟨b, off + j, none⟩ = (mfl L)[j]?) (k : Nat) (p : Mk) (hp : L[k]? = some p) : w.cell? ⟨b, off + k * 2, none⟩ = some (.int .i64 p.1) ∧ w.cell? ⟨b, off + k * 2 + 1, none⟩ = some (.int .i64 p.2) := by
  have hk := lt_of_get hp
  obtain ⟨f0, f1⟩ := mfl_get L k p hp
  exact ⟨(h (k * 2) (by omega)).trans f0, (h (k * 2 + 1) (by omega)).trans f1⟩
theorem Marks.all {w : World} {x : Addr} {L : List Mk} (h : Marks w (some x) L) : ∀ j u, (mfl L)[j]? = some u → w.cell? (x.add j) = some u := by
  intro j u hj
  have hlt := lt_of_get hj
  rw [mfl_length] at hlt
  rcases h with rfl | ⟨b, off, hx, _, hc⟩
  · simp at hlt
  · cases hx
    rw [← hj, show (⟨b, off, none⟩ : Addr).add j = ⟨b, off + j, none⟩ from by simp [Addr.add]]
    exact hc j hlt
/-- the value v is a row of the call's own that holds the marks L -/
def OwnM (w : World) (base : Nat) (v : Value) (L : List Mk) : Prop := w.ownsRow base 35 2 v L.length (mfl L)
theorem OwnM.shape {w : World} {base : Nat} {v : Value} {L : List Mk} (h : OwnM w base v L) :
    ∃ a cap, v = .slice a L.length cap ∧ L.length ≤ cap ∧ cap ≤ maxLen ∧ Marks w a L ∧ ((a = none ∧ L = [] ∧ cap = 0) ∨ ∃ g, a = some ⟨g, 0, none⟩ ∧ base ≤ g ∧ g < w.heap.size) := by
  have h' := h
  obtain ⟨h1, h2⟩ := h
  rcases h2 with ⟨rfl, hn⟩ | ⟨g, cap, cur, rfl, hb, hg, hnc, hcm, hcs, htake⟩
  · have : L = [] := List.length_eq_zero_iff.1 hn
    subst this
    exact ⟨none, 0, rfl, Nat.le_refl _, by simp, .inl rfl, .inl ⟨rfl, rfl, rfl⟩⟩
  · have hlt := lt_of_heap hg
    refine ⟨some ⟨g, 0, none⟩, cap, rfl, hnc, hcm, .inr ⟨g, 0, rfl, hlt, fun j hj => ?_⟩, .inr ⟨g, rfl, hb, hlt⟩⟩
    rw [Nat.zero_add]
    exact World.ownsRow.cellAt h' j hj
theorem OwnM.keep {w w' : World} {base : Nat} {v : Value} {L : List Mk} (h : OwnM w base v L) (hb : Below w.heap.size w w') : OwnM w' base v L := own_below h hb
theorem OwnM.nil (w : World) (base : Nat) : OwnM w base (.slice none 0 0) [] := World.ownsRow_nil w base _ 2
theorem OwnM.lit (w : World) : OwnM (w.alloc (.cells #[] 35)) w.heap.size (.slice (some ⟨w.heap.size, 0, none⟩) 0 0) [] := World.ownsRow_lit w #[] 0 (Nat.le_refl _) (by simp) rfl
theorem OwnM.snoc {w : World} {base : Nat} {v : Value} {L : List Mk} {p : Mk} {n : Nat} (hn : L.length = n) (h : w.ownsRow base 35 2 v (n + 1) (mfl L ++ [.int .i64 p.1, .int .i64 p.2])) : OwnM w base v (L ++ [p]) := by
  unfold OwnM
  rw [List.length_append, mfl_append, hn]
  exact h
theorem Try.infoMk : (Try.prog.info? 35).map (fun i => (i.zero, i.size, i.bytes)) = some (some (.agg #[.int .i64 0, .int .i64 0]), 2, 16) := by kernel_rfl
theorem below_next {w a b : World} (h : Below w.heap.size w a) (k : Below a.heap.size a b) : Below w.heap.size w b := h.trans (k.mono h.size)
/-- from a mark (s, a) on they rise, and stay within bounds -/
def vfrom : Int → Int → List Mk → Bool
  | _, _, [] => true
  | s, a, p :: r => !(decide (p.1 ≤ s) || decide (p.2 ≤ a) || decide (1099511627776 < p.1) || decide (1099511627776 < p.2)) && vfrom p.1 p.2 r
def validB (L : List Mk) : Bool := decide (L.length ≤ 512) && vfrom 0 (-1) L
theorem validB_long {L : List Mk} (h : 512 < L.length) : validB L = false := by unfold validB; rw [decide_eq_false (by omega)]; rfl
theorem validB_short {L : List Mk} (h : L.length ≤ 512) : validB L = vfrom 0 (-1) L := by unfold validB; rw [decide_eq_true h]; rfl
theorem vfrom_cons (s a : Int) (p : Mk) (r : List Mk) : vfrom s a (p :: r) = if p.1 ≤ s ∨ p.2 ≤ a ∨ 1099511627776 < p.1 ∨ 1099511627776 < p.2 then false else vfrom p.1 p.2 r := by
  show (!(decide (p.1 ≤ s) || decide (p.2 ≤ a) || decide (1099511627776 < p.1) || decide (1099511627776 < p.2)) && vfrom p.1 p.2 r) = _
  split
  · rename_i h
    rcases h with h | h | h | h <;> simp [h]
  · rename_i h
    have h1 : ¬ p.1 ≤ s := fun x => h (.inl x)
    have h2 : ¬ p.2 ≤ a := fun x => h (.inr (.inl x))
    have h3 : ¬ 1099511627776 < p.1 := fun x => h (.inr (.inr (.inl x)))
    have h4 : ¬ 1099511627776 < p.2 := fun x => h (.inr (.inr (.inr x)))
    rw [decide_eq_false h1, decide_eq_false h2, decide_eq_false h3, decide_eq_false h4]
    rfl
end Go.Proofs.Ytifackbilmkjlab
