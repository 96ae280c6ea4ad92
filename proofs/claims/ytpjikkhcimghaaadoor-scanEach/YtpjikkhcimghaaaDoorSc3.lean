/- What holds in scan.All's loop. -/
import Derived.Test.YtpjikkhcimghaaaDoorSc2
namespace Go.Proofs.YtpjikkhcimghaaaDoor
open Go.ChangeShapes Go.WideShapes Go.ChangeAt Go.RowKit
set_option linter.unusedVariables false
/-- the cells of placed frames -/
def pflt : List It → List Value
  | [] => []
  | x :: r => .int .i64 (x.fm.pos : Int) :: .int .i64 ((x.fm.body.length : Int) + 20) :: .int .i64 (x.fm.kind : Int) :: .int .i64 (x.fm.seq : Int) :: x.bv :: pflt r
theorem pflt_append : ∀ (L M : List It), pflt (L ++ M) = pflt L ++ pflt M
  | [], M => rfl
  | p :: r, M => by simp only [List.cons_append, pflt, pflt_append r M]
theorem pflt_length : ∀ (L : List It), (pflt L).length = L.length * 5
  | [] => rfl
  | p :: r => by simp only [pflt, List.length_cons, pflt_length r]; omega
/-- where the last of them ends; z, if there is none -/
def endZ (z : Nat) (L : List Fm) : Nat := match L.getLast? with
  | none => z
  | some f => f.pos + f.body.length + 20
abbrev endF (L : List Fm) : Nat := endZ 0 L
theorem endF_snoc (z : Nat) (L : List Fm) (f : Fm) : endZ z (L ++ [f]) = f.pos + f.body.length + 20 := by simp [endZ]
theorem cells_kept {X Y : World} {row : Option Nat} {b : Nat} {c : Array Value} {t : TypeId} {m : Nat × Nat} (h : X.heap[b]? = some (.cells c t m)) (hg : X.grownBy Y row) (hr : ∀ r, row = some r → ∃ o : Obj, X.heap[r]? = some o ∧ o.isCells = false) : Y.heap[b]? = some (.cells c t m) := by
  refine (hg.block b (lt_of_heap h) (fun e => ?_)).trans h
  obtain ⟨o, h1, h2⟩ := hr b e.symm
  rw [h] at h1
  cases h1
  cases h2
theorem row_kept {X Y : World} {row : Option Nat} {base size n : Nat} {e : TypeId} {v : Value} {xs : List Value} (h : X.ownsRow base e size v n xs) (hg : X.grownBy Y row) (hr : ∀ r, row = some r → ∃ o : Obj, X.heap[r]? = some o ∧ o.isCells = false) : Y.ownsRow base e size v n xs := by
  refine ⟨h.1, ?_⟩
  rcases h.2 with h2 | ⟨g, cap, cur, h3, h4, h5, h6⟩
  · exact .inl h2
  · exact .inr ⟨g, cap, cur, h3, h4, cells_kept h5 hg hr, h6⟩
/-- the variables of a loop over frames: the placed ones (box p), where they end (box q), the text's box k; their bodies -/
structure AI (w : World) (p q k z : Nat) (pre : List It) (W : World) : Prop where
  row : ∃ v, Boxed W p 24 v ∧ W.ownsRow w.heap.size 34 5 v pre.length (pflt pre)
  fin : Boxed W q 3 (.int .i64 (endZ z (pre.map It.fm) : Int))
  box : ∃ c, W.heap[k]? = some (.cells c 22)
  byt : ∀ x ∈ pre, Own W w.heap.size x.bv x.fm.body
  bel : Below w.heap.size w W
theorem AI.own (w : World) (p q k z B : Nat) (hB : w.heap.size ≤ B) : OwnFrom B (AI w p q k z) := by
  rintro pre X Y row ⟨⟨v, h1, h2⟩, h3, ⟨c, h6⟩, h4, h5⟩ hg hr
  have hr2 : ∀ r, row = some r → ∃ o : Obj, X.heap[r]? = some o ∧ o.isCells = false := fun r e => (hr r e).2
  refine ⟨⟨v, cells_kept h1 hg hr2, row_kept h2 hg hr2⟩, cells_kept h3 hg hr2, ⟨c, cells_kept h6 hg hr2⟩, fun x hx => ⟨(h4 x hx).1, row_kept (h4 x hx).2 hg hr2⟩, ?_⟩
  exact h5.grown hg h5.size (fun r e => Nat.le_trans hB (hr r e).1)
theorem AI.below {w W W' : World} {p q k z : Nat} {pre : List It} (h : AI w p q k z pre W) (hb : Below W.heap.size W W') : AI w p q k z pre W' := by
  obtain ⟨⟨v, h1, h2⟩, h3, ⟨c, h6⟩, h4, h5⟩ := h
  exact ⟨⟨v, (hb.block _ h1.lt).trans h1, own_below h2 hb⟩, (hb.block _ h3.lt).trans h3, ⟨c, (hb.block _ (lt_of_heap h6)).trans h6⟩, fun x hx => ⟨(h4 x hx).1, own_below (h4 x hx).2 hb⟩, h5.trans (hb.mono h5.size)⟩
theorem keeps_below {W W' : World} (h : Below W.heap.size W W') : KeepsOthers W W' := ⟨h.size, fun k o hk _ => (h.block k (lt_of_heap hk)).trans hk⟩
theorem KB.below {n₀ k : Nat} {W W' : World} (hn : n₀ ≤ W.heap.size) (h : Below W.heap.size W W') : KB n₀ k W W' := ⟨h.mono hn, fun hk => h.block k hk⟩
/-- another block, of another type, behind an append and two stores -/
theorem far_kept {W4 w5 : World} {base n b p q T : Nat} {v v' u : Value} {xs : List Value} {c : Array Value} {m : Nat × Nat} (ho : W4.ownsRow base 34 5 v n xs) (hg : W4.grownBy w5 v.ownBlock) (h : W4.heap[b]? = some (.cells c T m)) (hT : T ≠ 34) (h1 : b ≠ p) (h2 : b ≠ q) :
    ((w5.setCell ⟨p, 0, none⟩ v').setCell ⟨q, 0, none⟩ u).heap[b]? = some (.cells c T m) := by
  have h5 : w5.heap[b]? = some (.cells c T m) := by
    rw [hg.block b (lt_of_heap h) (fun e => ?_)]
    · exact h
    · rcases ho.2 with ⟨rfl, _⟩ | ⟨g, cap, cur, rfl, _, hh, _⟩
      · simp [Value.ownBlock] at e
      · have : b = g := by simpa [Value.ownBlock] using e
        subst this
        rw [h] at hh
        cases hh
        exact hT rfl
  rw [heap_setCell_other _ ⟨q, 0, none⟩ b u h2, heap_setCell_other _ ⟨p, 0, none⟩ b v' h1]
  exact h5
/-- the end of a round: the row has grown by an item, two boxes are written anew -/
theorem AI.step {w W W4 w5 : World} {p q k z : Nat} {pre : List It} {x : It} {v v' : Value} {e : Int} (h : AI w p q k z pre W) (hb4 : Below W.heap.size W W4) (hx : Own W4 w.heap.size x.bv x.fm.body)
    (hv : Boxed W p 24 v) (ho : W4.ownsRow w.heap.size 34 5 v pre.length (pflt pre)) (hg : W4.grownBy w5 v.ownBlock) (ho5 : w5.ownsRow w.heap.size 34 5 v' (pre.length + 1) (pflt pre ++ pflt [x]))
    (hp : w.heap.size ≤ p) (hq : w.heap.size ≤ q) (hpq : p ≠ q) (hkp : k ≠ p) (hkq : k ≠ q) (he : e = (endZ z ((pre ++ [x]).map It.fm) : Int)) (B : Nat) :
    KeepsFrom B W ((w5.setCell ⟨p, 0, none⟩ v').setCell ⟨q, 0, none⟩ (.int .i64 e)) ∧ KB w.heap.size k W ((w5.setCell ⟨p, 0, none⟩ v').setCell ⟨q, 0, none⟩ (.int .i64 e)) ∧ AI w p q k z (pre ++ [x]) ((w5.setCell ⟨p, 0, none⟩ v').setCell ⟨q, 0, none⟩ (.int .i64 e)) := by
  subst he
  have h4 : AI w p q k z pre W4 := h.below hb4
  obtain ⟨_, h3, ⟨c, h6⟩, hby, h5⟩ := h4
  have hpW4 : Boxed W4 p 24 v := (hb4.block _ hv.lt).trans hv
  have hB5 : Below w.heap.size w w5 := h5.grown hg h5.size (fun r e => (ho.lt r e).1)
  have hp5 : Boxed w5 p 24 v := hpW4.kept hg (fun e => Boxed.not_row hpW4 (by decide) ho e)
  have hq5 : Boxed w5 q 3 (.int .i64 (endZ z (pre.map It.fm) : Int)) := Boxed.kept h3 hg (fun e => Boxed.not_row h3 (by decide) ho e)
  have bytes5 : ∀ (bv : Value) (l : List Nat), Own W4 w.heap.size bv l → Own ((w5.setCell ⟨p, 0, none⟩ v').setCell ⟨q, 0, none⟩ (.int .i64 (endZ z ((pre ++ [x]).map It.fm) : Int))) w.heap.size bv l := by
    intro bv l hl
    refine ⟨hl.1, hl.2.1, ?_⟩
    rcases hl.2.2 with h2 | ⟨g, cap, cur, g3, g4, g5, g6⟩
    · exact .inl h2
    · refine .inr ⟨g, cap, cur, g3, g4, far_kept ho hg g5 (by decide) ?_ ?_, g6⟩
      · rintro rfl
        have := hpW4.symm.trans g5
        cases this
      · rintro rfl
        have := (show W4.heap[g]? = _ from h3).symm.trans g5
        cases this
  have row5 : ((w5.setCell ⟨p, 0, none⟩ v').setCell ⟨q, 0, none⟩ (.int .i64 (endZ z ((pre ++ [x]).map It.fm) : Int))).ownsRow w.heap.size 34 5 v' (pre.length + 1) (pflt pre ++ pflt [x]) := by
    refine ⟨ho5.1, ?_⟩
    rcases ho5.2 with h2 | ⟨g, cap, cur, g3, g4, g5, g6⟩
    · exact .inl h2
    · refine .inr ⟨g, cap, cur, g3, g4, ?_, g6⟩
      rw [heap_setCell_other _ ⟨q, 0, none⟩ g _ ?_, heap_setCell_other _ ⟨p, 0, none⟩ g _ ?_]
      · exact g5
      · rintro rfl
        have := (show w5.heap[g]? = _ from hp5).symm.trans g5
        cases this
      · rintro rfl
        have := (show w5.heap[g]? = _ from hq5).symm.trans g5
        cases this
  have hcell : ∀ (r : Nat) (o : Obj), v.ownBlock = some r → W4.heap[r]? = some o → o.isCells = true := by
    intro r o hr ho2
    rcases ho.2 with ⟨rfl, _⟩ | ⟨g, cap, cur, rfl, _, hh, _⟩
    · simp [Value.ownBlock] at hr
    · have : g = r := by simpa [Value.ownBlock] using hr
      subst this
      rw [hh] at ho2
      cases ho2
      rfl
  refine ⟨?_, ⟨?_, fun _ => ?_⟩, ⟨⟨v', (Boxed.set v' hp5).other hpq _, by rw [List.length_append, pflt_append]; exact row5⟩, Boxed.set _ (hq5.other (Ne.symm hpq) _), ⟨c, far_kept ho hg h6 (by decide) hkp hkq⟩, ?_, ?_⟩⟩
  · exact ((keeps_below hb4).trans ((KeepsOthers.of_grownBy hg hcell).trans ((KeepsOthers.setCell _ _ _).trans (KeepsOthers.setCell _ _ _)))).from B
  · exact ((((hb4.mono h.bel.size).grown hg h5.size (fun r e => (ho.lt r e).1)).setCell (p := ⟨p, 0, none⟩) hp _).setCell (p := ⟨q, 0, none⟩) hq _)
  · obtain ⟨c2, h7⟩ := h.box
    have h8 := (hb4.block k (lt_of_heap h7)).trans h7
    rw [far_kept ho hg h8 (by decide) hkp hkq, h7]
  · intro y hy
    rcases List.mem_append.1 hy with hy | hy
    · exact bytes5 _ _ (hby y hy)
    · simp at hy
      subst hy
      exact bytes5 _ _ hx
  · exact (hB5.setCell (p := ⟨p, 0, none⟩) hp _).setCell (p := ⟨q, 0, none⟩) hq _
end Go.Proofs.YtpjikkhcimghaaaDoor
