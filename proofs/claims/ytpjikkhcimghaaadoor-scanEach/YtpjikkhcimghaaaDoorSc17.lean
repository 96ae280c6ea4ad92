/- ScanEach's end: two deferred calls, one result in a box. -/
import Derived.Test.YtpjikkhcimghaaaDoorSc12
namespace Go.Proofs.YtpjikkhcimghaaaDoor
open Go.ChangeShapes Go.WideShapes Go.ChangeAt Go.RowKit Go.Shelf
set_option linter.unusedVariables false
theorem box_loadE {W : World} {b : Nat} {v : Bool} (h : Boxed W b 4 (.bool v)) : (Go.loadVar 4 ⟨b, 0, none⟩).run Tryd.prog W = .ok (.bool v) W := by
  have h0 := h.cell
  simp [go_sem, h0]
theorem results_cellE {fn : Func} {t : Tmp} {ty : TypeId} (h : fn.results = #[.cell t ty]) (tmps : Array Value) (w : World) (b : Nat) (v : Value) (ht : tmps.getD t undef = .pointer (some ⟨b, 0, none⟩)) (hl : (Go.loadVar ty ⟨b, 0, none⟩).run Tryd.prog w = .ok v w) :
    (results fn tmps).run Tryd.prog w = .ok v w := by
  simp only [Array.getD_eq_getD_getElem?] at ht
  simp [results, h, ht, asAddr, hl]
theorem each_end {w w3 W2 : World} {D D2 : Nat} (hw : Below w.heap.size w w3) (hb : Below w3.heap.size w3 W2) (hr : Boxed W2 (w.heap.size + 1) 4 (.bool false)) (hD2 : W2.heap[D2]? = some (.deferred (some []))) (hD : W2.heap[D]? = some (.deferred (some []))) (hne : D ≠ D2) (h1 : w.heap.size + 1 < D) (h2 : w.heap.size + 1 < D2) :
    (W2.setCell ⟨w.heap.size + 1, 0, none⟩ (.bool true)).heap[D2]? = some (.deferred (some [])) ∧ ((W2.setCell ⟨w.heap.size + 1, 0, none⟩ (.bool true)).putObj D2 (.deferred none)).heap[D]? = some (.deferred (some [])) ∧ Boxed (((W2.setCell ⟨w.heap.size + 1, 0, none⟩ (.bool true)).putObj D2 (.deferred none)).putObj D (.deferred none)) (w.heap.size + 1) 4 (.bool true) ∧ Below w.heap.size w (((W2.setCell ⟨w.heap.size + 1, 0, none⟩ (.bool true)).putObj D2 (.deferred none)).putObj D (.deferred none)) := by
  have e1 : (W2.setCell ⟨w.heap.size + 1, 0, none⟩ (.bool true)).heap[D2]? = some (.deferred (some [])) := (heap_setCell_other _ ⟨w.heap.size + 1, 0, none⟩ D2 _ (by show D2 ≠ w.heap.size + 1; omega)).trans hD2
  have e2 : (W2.setCell ⟨w.heap.size + 1, 0, none⟩ (.bool true)).heap[D]? = some (.deferred (some [])) := (heap_setCell_other _ ⟨w.heap.size + 1, 0, none⟩ D _ (by show D ≠ w.heap.size + 1; omega)).trans hD
  have e3 : Boxed (W2.setCell ⟨w.heap.size + 1, 0, none⟩ (.bool true)) (w.heap.size + 1) 4 (.bool true) := by
    have := Boxed.set (.bool true) hr
    simpa using this
  have b1 : Below w.heap.size w (W2.setCell ⟨w.heap.size + 1, 0, none⟩ (.bool true)) := (hw.trans (hb.mono hw.size)).setCell (p := ⟨w.heap.size + 1, 0, none⟩) (by simp) _
  have b2 := b1.grown (grownBy_putObj' _ D2 (.deferred none)) b1.size (fun k e => by cases e; omega)
  refine ⟨e1, (World.putObj_heap_other (by omega)).trans e2, ?_, b2.grown (grownBy_putObj' _ D (.deferred none)) b2.size (fun k e => by cases e; omega)⟩
  exact ((World.putObj_heap_other (by omega)).trans (World.putObj_heap_other (by omega))).trans e3
end Go.Proofs.YtpjikkhcimghaaaDoor
