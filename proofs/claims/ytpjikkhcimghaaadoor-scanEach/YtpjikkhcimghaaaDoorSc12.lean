/- What holds in ScanEach's loops. -/
import Derived.Test.YtpjikkhcimghaaaDoorSc10
namespace Go.Proofs.YtpjikkhcimghaaaDoor
open Go.ChangeShapes Go.WideShapes Go.ChangeAt Go.RowKit Go.Shelf
set_option linter.unusedVariables false
/-- how many frames came by (box k + 1), in a loop over a text (box k) that is left at the stop-th -/
structure EI (w3 : World) (stop : Int) (bx : Array Value) (pre : List It) (W : World) : Prop where
  bel : Below w3.heap.size w3 W
  box : W.heap[w3.heap.size]? = some (.cells bx 22)
  cnt : Boxed W (w3.heap.size + 1) 3 (.int .i64 (pre.length : Int))
  no : ∀ j : Nat, 1 ≤ j → j ≤ pre.length → (j : Int) ≠ stop
theorem EI.own (w3 : World) (stop : Int) (bx : Array Value) (B : Nat) (hB : w3.heap.size ≤ B) : OwnFrom B (EI w3 stop bx) := by
  rintro pre X Y row ⟨h1, h2, h3, h4⟩ hg hr
  have hr2 : ∀ r, row = some r → ∃ o : Obj, X.heap[r]? = some o ∧ o.isCells = false := fun r e => (hr r e).2
  exact ⟨h1.grown hg h1.size (fun r e => Nat.le_trans hB (hr r e).1), cells_kept h2 hg hr2, cells_kept h3 hg hr2, h4⟩
theorem EI.below {w3 W W' : World} {stop : Int} {bx : Array Value} {pre : List It} (h : EI w3 stop bx pre W) (hb : Below W.heap.size W W') : EI w3 stop bx pre W' := by
  obtain ⟨h1, h2, h3, h4⟩ := h
  exact ⟨h1.trans (hb.mono h1.size), (hb.block _ (lt_of_heap h2)).trans h2, (hb.block _ h3.lt).trans h3, h4⟩
/-- left at the stop-th -/
def EX (w3 : World) (stop : Int) (bx : Array Value) (c : Code) (ys : List It) (W : World) : Prop := (c = .exit 0 ∧ ys ≠ [] ∧ (ys.length : Int) = stop) ∧ Below w3.heap.size w3 W ∧ W.heap[w3.heap.size]? = some (.cells bx 22) ∧ Boxed W (w3.heap.size + 1) 3 (.int .i64 (ys.length : Int))
theorem EX.own (w3 : World) (stop : Int) (bx : Array Value) (c : Code) (B : Nat) (hB : w3.heap.size ≤ B) : OwnFrom B (EX w3 stop bx c) := by
  rintro ys X Y row ⟨hc, h1, h2, h3⟩ hg hr
  have hr2 : ∀ r, row = some r → ∃ o : Obj, X.heap[r]? = some o ∧ o.isCells = false := fun r e => (hr r e).2
  exact ⟨hc, h1.grown hg h1.size (fun r e => Nat.le_trans hB (hr r e).1), cells_kept h2 hg hr2, cells_kept h3 hg hr2⟩
/-- a round: the number goes up by one -/
theorem EI.step {w3 W W4 : World} {stop : Int} {bx : Array Value} {pre : List It} {x : It} {u : Int} (h : EI w3 stop bx pre W) (hb : Below W.heap.size W W4) (hu : u = (pre.length : Int) + 1) (B : Nat) :
    KeepsFrom B W (W4.setCell ⟨w3.heap.size + 1, 0, none⟩ (.int .i64 u)) ∧ KB w3.heap.size w3.heap.size W (W4.setCell ⟨w3.heap.size + 1, 0, none⟩ (.int .i64 u)) ∧ Below w3.heap.size w3 (W4.setCell ⟨w3.heap.size + 1, 0, none⟩ (.int .i64 u)) ∧ (W4.setCell ⟨w3.heap.size + 1, 0, none⟩ (.int .i64 u)).heap[w3.heap.size]? = some (.cells bx 22) ∧ Boxed (W4.setCell ⟨w3.heap.size + 1, 0, none⟩ (.int .i64 u)) (w3.heap.size + 1) 3 (.int .i64 ((pre ++ [x]).length : Int)) := by
  subst hu
  have h4 := h.below hb
  have hc := h4.box
  have hoth : (W4.setCell ⟨w3.heap.size + 1, 0, none⟩ (.int .i64 ((pre.length : Int) + 1))).heap[w3.heap.size]? = some (.cells bx 22) := by
    rw [heap_setCell_other _ ⟨w3.heap.size + 1, 0, none⟩ w3.heap.size _ (by simp)]
    exact hc
  refine ⟨((keeps_below hb).trans (KeepsOthers.setCell _ _ _)).from B, ⟨?_, fun _ => ?_⟩, ?_, hoth, ?_⟩
  · exact (hb.mono h.bel.size).setCell (p := ⟨w3.heap.size + 1, 0, none⟩) (by simp) _
  · have h7 := h.box
    have h8 := (hb.block _ (lt_of_heap h7)).trans h7
    rw [hoth]
    rw [hc] at h8
    rw [h8, h7]
  · exact h4.bel.setCell (p := ⟨w3.heap.size + 1, 0, none⟩) (by simp) _
  · have := Boxed.set (.int .i64 ((pre.length : Int) + 1)) h4.cnt
    rw [List.length_append]
    simpa using this
theorem plc_of' {w : World} {base N c : Nat} {a : Option Addr} {xs : List It} (h : OwnP w base (.slice a N c) xs) (hl : xs.length = N) : PlcA w a xs := by
  obtain ⟨a2, c2, h1, h2⟩ := h.plc
  cases h1
  exact h2
theorem seq2_func : (match Tryd.prog.underlying 28 with | some (.func _ _ _) => true | _ => false) = true := by kernel_rfl
/-- an iterator is not nil -/
theorem seq2_eq (f : Fn) (b c : Array Value) (w : World) : (binOp .eql 28 (.func f b c) .nilFunc).run Tryd.prog w = .ok (.bool false) w := by
  have h := seq2_func
  split at h
  · rename_i x y z hu
    have e2 : (Op.equal 28 (.func f b c) .nilFunc).run Tryd.prog w = .ok false w := by
      unfold Op.equal
      rw [show Op.maxDepth = (Op.maxDepth - 1) + 1 from by decide, Op.equalIn]
      simp only [Sem.run_bind, run_underlying hu, Result.andThen_ok, Sem.run_pure]
    have e1 : binOp .eql 28 (.func f b c) .nilFunc = (do pure (.bool (← Op.equal 28 (.func f b c) .nilFunc))) := rfl
    rw [e1]
    simp only [Sem.run_bind, e2, Result.andThen_ok, Sem.run_pure]
  · cases h
/-- the second loop: no end but the last; the first one's deferred call still lies there -/
def EJ (w3 : World) (bx : Array Value) (D : Nat) (pre : List It) (W : World) : Prop := EI w3 0 bx pre W ∧ W.heap[D]? = some (.deferred (some []))
theorem EJ.own (w3 : World) (bx : Array Value) (D B : Nat) (hB : w3.heap.size ≤ B) (hD : D < B) : OwnFrom B (EJ w3 bx D) := by
  rintro pre X Y row ⟨h1, h2⟩ hg hr
  exact ⟨EI.own w3 0 bx B hB _ _ _ _ h1 hg hr, (hg.block D (lt_of_heap h2) (fun e => by have := (hr D e.symm).1; omega)).trans h2⟩
/-- ahead of the second loop -/
theorem EJ.start {w3 W : World} {bx : Array Value} {D : Nat} {x : Value} (h1 : Below w3.heap.size w3 W) (h2 : W.heap[w3.heap.size]? = some (.cells bx 22)) (h3 : Boxed W (w3.heap.size + 1) 3 x) (h4 : W.heap[D]? = some (.deferred (some []))) (hD : D ≠ w3.heap.size + 1) : EJ w3 bx D [] (W.setCell ⟨w3.heap.size + 1, 0, none⟩ (.int .i64 0)) := by
  refine ⟨⟨h1.setCell (p := ⟨w3.heap.size + 1, 0, none⟩) (by simp) _, ?_, ?_, fun j j1 j2 => by simp at j2; omega⟩, ?_⟩
  · rw [heap_setCell_other _ ⟨w3.heap.size + 1, 0, none⟩ w3.heap.size _ (by simp)]; exact h2
  · have := Boxed.set (.int .i64 0) h3
    simpa using this
  · rw [heap_setCell_other _ ⟨w3.heap.size + 1, 0, none⟩ D _ (by simpa using hD)]; exact h4
end Go.Proofs.YtpjikkhcimghaaaDoor
