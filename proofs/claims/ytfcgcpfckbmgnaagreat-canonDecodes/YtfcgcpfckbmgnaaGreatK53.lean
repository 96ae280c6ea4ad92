/- Own texts, joined: Rt8. -/
import Derived.Test.YtfcgcpfckbmgnaaGreatK52
import Derived.Test.YtfcgcpfckbmgnaaGreatK18
import Derived.Test.YtfcgcpfckbmgnaaGreatK47
import Derived.Test.YtfcgcpfckbmgnaaGreatK50
namespace Go.Proofs.YtfcgcpfckbmgnaaGreat
open Go.ChangeShapes Go.WideShapes Go.ChangeAt Go.RowKit
set_option linter.unusedVariables false
theorem frozen_heap {x y : World} {g : Nat} (h : y.heap[g]? = x.heap[g]?) (j : Nat) : y.frozen? ⟨g, j, none⟩ = x.frozen? ⟨g, j, none⟩ := by
  unfold World.frozen?
  simp only [h]
/-- a row of whole numbers that may be written -/
structure RowN (w : World) (b : Nat) (l : List Int) : Prop where
  lt : b < w.heap.size
  row : ∀ j, j < l.length → w.cell? ⟨b, j, none⟩ = some (.int .i64 (l.getD j 0))
  fro : ∀ j, w.frozen? ⟨b, j, none⟩ = false
theorem RowN.heap {w y : World} {b : Nat} {l : List Int} (h : RowN w b l) (he : y.heap[b]? = w.heap[b]?) : RowN y b l := by
  refine ⟨?_, fun j hj => (cell_heap he j).trans (h.row j hj), fun j => (frozen_heap he j).trans (h.fro j)⟩
  have h1 : w.heap[b]? = some (w.heap[b]'h.lt) := Array.getElem?_eq_getElem h.lt
  exact lt_of_heap (he.trans h1)
theorem RowN.set {w : World} {b : Nat} {l : List Int} (h : RowN w b l) (t : Nat) (x : Int) (m : List Int) (hl : m.length = l.length) (hm : ∀ j, j < m.length → m.getD j 0 = if j = t then x else l.getD j 0) (ht : t < l.length) : RowN (w.setCell ⟨b, t, none⟩ (.int .i64 x)) b m := by
  refine ⟨by simpa [World.setCell] using h.lt, fun j hj => ?_, fun j => by rw [World.frozen?_setCell]; exact h.fro j⟩
  rw [hm j hj]
  by_cases e : j = t
  · subst e
    rw [if_pos rfl]
    exact World.cell?_setCell_same _ _ _ (by rw [h.row j ht])
  · rw [if_neg e, World.cell?_setCell_other _ _ _ _ (by intro h9; simp at h9)]
    exact h.row j (by omega)
theorem StAt.setC {w : World} {b : Nat} {s s2 : St} {v v2 : Value} (h : StAt w b s v) (i : Nat) (x : Value) (he : (stA s v).setIfInBounds i x = stA s2 v2) : StAt (w.setCell ⟨b, i, none⟩ x) b s2 v2 := by
  unfold StAt at h ⊢
  rw [heap_setCell_same w b i _ _ _ h, he]
/-- in the loop: w when called, w3 behind the reading, x now -/
structure Rq (w w3 x : World) (P : List Fld) (v : Value) : Prop where
  bel : Below w.heap.size w w3
  be3 : Below w3.heap.size w3 x
  res : StAt w3 w.heap.size zeroS (.slice none 0 0)
  non : StAt w3 (w.heap.size + 1) zeroS (.slice none 0 0)
  num : RowN x w3.heap.size (nsOf P)
  st : StAt x (w3.heap.size + 1) { zeroS with who := str8 (txtF P 11), lines := lnsOf P } v
  own : OwnL x (w3.heap.size + 2) v (lnsOf P)
theorem Rq.keep {w w3 x y : World} {P : List Fld} {v : Value} (h : Rq w w3 x P v) (hb : Below x.heap.size x y) : Rq w w3 y P v :=
  ⟨h.bel, below_next h.be3 hb, h.res, h.non, h.num.heap (hb.block _ h.num.lt), h.st.after hb, h.own.keep hb⟩
theorem Rq.drew {w w3 x : World} {P : List Fld} {v : Value} (h : Rq w w3 x P v) : Hid (Rq w w3 x.drew P v) := h.keep (Below.refl _ _).drew
/-- a field that is passed by -/
theorem Rq.pass {w w3 x : World} {P : List Fld} {v : Value} {f : Fld} (h : Rq w w3 x P v) (h11 : 11 < f.tag) (ht : tx9 (P ++ [f]) = tx9 P) : Rq w w3 x (P ++ [f]) v := by
  have e1 : nsOf (P ++ [f]) = nsOf P := ns_other (fun t ht => by omega)
  have e2 : txtF (P ++ [f]) 11 = txtF P 11 := txtF_snoc_other (by omega)
  have e3 : lnsOf (P ++ [f]) = lnsOf P := by unfold lnsOf; rw [ht]
  refine ⟨h.bel, h.be3, h.res, h.non, ?_, ?_, ?_⟩
  · rw [e1]; exact h.num
  · rw [e2, e3]; exact h.st
  · rw [e3]; exact h.own
theorem Rq.who {w w3 x : World} {P : List Fld} {v : Value} {f : Fld} (h : Rq w w3 x P v) (hf : ∀ g ∈ P, g.tag < f.tag) (h11 : f.tag = 11) (hx : f.text = true) (ht : tx9 (P ++ [f]) = tx9 P) : Rq w w3 (x.setCell ⟨w3.heap.size + 1, 11, none⟩ (.string (str8 f.bytes))) (P ++ [f]) v := by
  have hn : getF P f.tag = none := getF_none.2 (fun g hg e => by have := hf g hg; omega)
  have e1 : nsOf (P ++ [f]) = nsOf P := ns_other (fun t ht => by omega)
  have e2 : txtF (P ++ [f]) 11 = f.bytes := by rw [← h11]; exact txtF_snoc_same hn hx
  have e3 : lnsOf (P ++ [f]) = lnsOf P := by unfold lnsOf; rw [ht]
  refine ⟨h.bel, h.be3.setCell (p := ⟨w3.heap.size + 1, 11, none⟩) (by show _ ≤ w3.heap.size + 1; omega) _, h.res, h.non, ?_, ?_, ?_⟩
  · rw [e1]; exact h.num.heap (heap_setCell_other _ ⟨w3.heap.size + 1, 11, none⟩ _ _ (by show w3.heap.size ≠ w3.heap.size + 1; omega))
  · rw [e2, e3]; exact h.st.setC 11 _ rfl
  · rw [e3]; exact OwnL.other h.own (k := w3.heap.size + 1) (by omega) (fun j hj => heap_setCell_other _ ⟨w3.heap.size + 1, 11, none⟩ j _ hj)
theorem Rq.put {w w3 x : World} {P : List Fld} {v : Value} {f : Fld} (h : Rq w w3 x P v) (hf : ∀ g ∈ P, g.tag < f.tag) (T : Nat) (hT : f.tag = (T : Int)) (hT11 : T < 11) (hx : f.text = false) (ht : tx9 (P ++ [f]) = tx9 P) : Rq w w3 (x.setCell ⟨w3.heap.size, T, none⟩ (.int .i64 (capN f.num))) (P ++ [f]) v := by
  have e2 : txtF (P ++ [f]) 11 = txtF P 11 := txtF_snoc_other (by omega)
  have e3 : lnsOf (P ++ [f]) = lnsOf P := by unfold lnsOf; rw [ht]
  refine ⟨h.bel, h.be3.setCell (p := ⟨w3.heap.size, T, none⟩) (Nat.le_refl _) _, h.res, h.non, ?_, ?_, ?_⟩
  · exact h.num.set T _ _ (by rw [ns_len, ns_len]) (fun j hj => ns_put hf hT hx j (by rw [ns_len] at hj; exact hj)) (by rw [ns_len]; exact hT11)
  · rw [e2, e3]; exact (heap_setCell_other _ ⟨w3.heap.size, T, none⟩ _ _ (by show w3.heap.size + 1 ≠ w3.heap.size; omega)).trans h.st
  · rw [e3]; exact OwnL.other h.own (k := w3.heap.size) (by omega) (fun j hj => heap_setCell_other _ ⟨w3.heap.size, T, none⟩ j _ hj)
/-- a line more: y behind the append -/
theorem Rq.line {w w3 x y : World} {P : List Fld} {v v2 : Value} {f : Fld} (h : Rq w w3 x P v) (h11 : 11 < f.tag) (hL : tx9 (P ++ [f]) = tx9 P ++ [f.bytes]) (ho : OwnL y (w3.heap.size + 2) v2 (lnsOf P ++ [(rdLn f.bytes).1])) (hg : x.grownBy y v.ownBlock) :
    StAt y (w3.heap.size + 1) { zeroS with who := str8 (txtF P 11), lines := lnsOf P } v ∧ Rq w w3 (y.setCell ⟨w3.heap.size + 1, 5, none⟩ v2) (P ++ [f]) v2 := by
  have e1 : nsOf (P ++ [f]) = nsOf P := ns_other (fun t ht => by omega)
  have e2 : txtF (P ++ [f]) 11 = txtF P 11 := txtF_snoc_other (by omega)
  have e3 : lnsOf (P ++ [f]) = lnsOf P ++ [(rdLn f.bytes).1] := by unfold lnsOf; rw [hL, List.map_append]; rfl
  have far : ∀ b, b < x.heap.size → b < w3.heap.size + 2 → y.heap[b]? = x.heap[b]? := fun b hb hb2 => hg.block b hb (fun hh => by have := (row_blk h.own hh.symm).1; omega)
  have hst : StAt y (w3.heap.size + 1) { zeroS with who := str8 (txtF P 11), lines := lnsOf P } v := (far _ h.st.lt (by omega)).trans h.st
  have hnum : RowN y w3.heap.size (nsOf P) := h.num.heap (far _ h.num.lt (by omega))
  have hlt := h.st.lt
  have hb3 : Below w3.heap.size w3 y := grown_row h.be3 (World.ownsRow.mono h.own (by omega)) h.be3.size hg
  refine ⟨hst, h.bel, hb3.setCell (p := ⟨w3.heap.size + 1, 5, none⟩) (by show _ ≤ w3.heap.size + 1; omega) _, h.res, h.non, ?_, ?_, ?_⟩
  · rw [e1]; exact hnum.heap (heap_setCell_other _ ⟨w3.heap.size + 1, 5, none⟩ _ _ (by show w3.heap.size ≠ w3.heap.size + 1; omega))
  · rw [e2, e3]; exact hst.setC 5 _ rfl
  · rw [e3]; exact OwnL.other ho (k := w3.heap.size + 1) (by omega) (fun j hj => heap_setCell_other _ ⟨w3.heap.size + 1, 5, none⟩ j _ hj)
theorem two_z (w : World) : ∃ W, (w.alloc (.cells (stA zeroS (.slice none 0 0)) 28)).alloc (.cells (stA zeroS (.slice none 0 0)) 28) = W ∧ StAt W w.heap.size zeroS (.slice none 0 0) ∧ StAt W (w.heap.size + 1) zeroS (.slice none 0 0) ∧ Below w.heap.size w W := by
  refine ⟨_, rfl, (StAt.new w zeroS _).after ((Below.refl _ _).alloc (Nat.le_refl _) _), ?_, (((Below.refl _ _).alloc (Nat.le_refl _) _).alloc (by simp) _)⟩
  have := StAt.new (w.alloc (.cells (stA zeroS (.slice none 0 0)) 28)) zeroS (.slice none 0 0)
  simpa using this
theorem mk11c (w : World) : (Instr.makeSlice 45 (.int .i64 11) (.int .i64 11)).run Tryz.prog w = .ok (.slice (some ⟨w.heap.size, 0, none⟩) 11 11) (w.alloc (.cells #[.int .i64 0, .int .i64 0, .int .i64 0, .int .i64 0, .int .i64 0, .int .i64 0, .int .i64 0, .int .i64 0, .int .i64 0, .int .i64 0, .int .i64 0] 3)) := by kernel_rfl
theorem rq_box (w3 : World) : ∃ W, (w3.alloc (.cells #[.int .i64 0, .int .i64 0, .int .i64 0, .int .i64 0, .int .i64 0, .int .i64 0, .int .i64 0, .int .i64 0, .int .i64 0, .int .i64 0, .int .i64 0] 3)).alloc (.cells (stA zeroS (.slice none 0 0)) 28) = W ∧ StAt W (w3.heap.size + 1) zeroS (.slice none 0 0) ∧ W.heap[w3.heap.size]? = some (.cells (IV [0, 0, 0, 0, 0, 0, 0, 0, 0, 0, 0]) 3) ∧ Below w3.heap.size w3 W := by
  refine ⟨_, rfl, ?_, ?_, (((Below.refl _ _).alloc (Nat.le_refl _) _).alloc (by simp) _)⟩
  · have := StAt.new (w3.alloc (.cells #[.int .i64 0, .int .i64 0, .int .i64 0, .int .i64 0, .int .i64 0, .int .i64 0, .int .i64 0, .int .i64 0, .int .i64 0, .int .i64 0, .int .i64 0] 3)) zeroS (.slice none 0 0)
    simpa using this
  · exact (Below.heap_alloc _ _ _ (by simp)).trans (heap_alloc_new w3 _)
theorem zero_ns : nsOf [] = [0, 0, 0, 0, 0, 0, 0, 0, 0, 0, 0] := rfl
theorem Rq.start {w w3 x : World} (hb : Below w.heap.size w w3) (h0 : StAt w3 w.heap.size zeroS (.slice none 0 0)) (h1 : StAt w3 (w.heap.size + 1) zeroS (.slice none 0 0)) (h3 : Below w3.heap.size w3 x) (hn : x.heap[w3.heap.size]? = some (.cells (IV [0, 0, 0, 0, 0, 0, 0, 0, 0, 0, 0]) 3)) (he : StAt x (w3.heap.size + 1) zeroS (.slice none 0 0)) : Rq w w3 x [] (.slice none 0 0) := by
  have hr := row_of hn
  refine ⟨hb, h3, h0, h1, ⟨hr.1, ?_, fun j => frozen_of_row _ _ j _ _ hn⟩, he, OwnL.nil _ _⟩
  rw [zero_ns]
  exact hr.2
/-- ten numbers laid into the state -/
theorem fill10 {wr : World} {b : Nat} {L : List Ln} {v : Value} {S : ByteArray} (h : StAt wr b { zeroS with who := S, lines := L } v) (n1 n2 n3 n4 n5 n6 n7 n8 n9 n10 : Int) (Z : World) (hZ : ((((((((((wr.setCell ⟨b, 0, none⟩ (.int .i64 n1)).setCell ⟨b, 1, none⟩ (.int .i64 n2)).setCell ⟨b, 2, none⟩ (.int .i64 n3)).setCell ⟨b, 3, none⟩ (.int .i64 n4)).setCell ⟨b, 4, none⟩ (.int .i64 n5)).setCell ⟨b, 6, none⟩ (.int .i64 n6)).setCell ⟨b, 7, none⟩ (.int .i64 n7)).setCell ⟨b, 8, none⟩ (.int .i64 n8)).setCell ⟨b, 9, none⟩ (.int .i64 n9)).setCell ⟨b, 10, none⟩ (.int .i64 n10)) = Z) :
    StAt Z b ⟨n1, n2, n3, n4, n5, L, n6, n7, n8, n9, n10, S⟩ v ∧ (∀ j, j ≠ b → Z.heap[j]? = wr.heap[j]?) ∧ (∀ B a, Below B a wr → B ≤ b → Below B a Z) := by
  subst hZ
  have s0 : StAt _ b { zeroS with who := S, lines := L, order := n1 } v := h.setC 0 (.int .i64 n1) rfl
  have s1 : StAt _ b { zeroS with who := S, lines := L, order := n1, status := n2 } v := s0.setC 1 (.int .i64 n2) rfl
  have s2 : StAt _ b { zeroS with who := S, lines := L, order := n1, status := n2, prior := n3 } v := s1.setC 2 (.int .i64 n3) rfl
  have s3 : StAt _ b { zeroS with who := S, lines := L, order := n1, status := n2, prior := n3, cur := n4 } v := s2.setC 3 (.int .i64 n4) rfl
  have s4 : StAt _ b { zeroS with who := S, lines := L, order := n1, status := n2, prior := n3, cur := n4, tax := n5 } v := s3.setC 4 (.int .i64 n5) rfl
  have s6 : StAt _ b { zeroS with who := S, lines := L, order := n1, status := n2, prior := n3, cur := n4, tax := n5, paid := n6 } v := s4.setC 6 (.int .i64 n6) rfl
  have s7 : StAt _ b { zeroS with who := S, lines := L, order := n1, status := n2, prior := n3, cur := n4, tax := n5, paid := n6, refunded := n7 } v := s6.setC 7 (.int .i64 n7) rfl
  have s8 : StAt _ b { zeroS with who := S, lines := L, order := n1, status := n2, prior := n3, cur := n4, tax := n5, paid := n6, refunded := n7, events := n8 } v := s7.setC 8 (.int .i64 n8) rfl
  have s9 : StAt _ b { zeroS with who := S, lines := L, order := n1, status := n2, prior := n3, cur := n4, tax := n5, paid := n6, refunded := n7, events := n8, refused := n9 } v := s8.setC 9 (.int .i64 n9) rfl
  have s10 : StAt _ b ⟨n1, n2, n3, n4, n5, L, n6, n7, n8, n9, n10, S⟩ v := s9.setC 10 (.int .i64 n10) rfl
  refine ⟨s10, fun j hj => ?_, fun B a hb hk => ?_⟩
  · exact (heap_setCell_other _ ⟨b, 10, none⟩ j _ hj).trans ((heap_setCell_other _ ⟨b, 9, none⟩ j _ hj).trans ((heap_setCell_other _ ⟨b, 8, none⟩ j _ hj).trans ((heap_setCell_other _ ⟨b, 7, none⟩ j _ hj).trans ((heap_setCell_other _ ⟨b, 6, none⟩ j _ hj).trans ((heap_setCell_other _ ⟨b, 4, none⟩ j _ hj).trans ((heap_setCell_other _ ⟨b, 3, none⟩ j _ hj).trans ((heap_setCell_other _ ⟨b, 2, none⟩ j _ hj).trans ((heap_setCell_other _ ⟨b, 1, none⟩ j _ hj).trans (heap_setCell_other wr ⟨b, 0, none⟩ j _ hj)))))))))
  · exact (((((((((hb.setCell (p := ⟨b, 0, none⟩) hk _).setCell (p := ⟨b, 1, none⟩) hk _).setCell (p := ⟨b, 2, none⟩) hk _).setCell (p := ⟨b, 3, none⟩) hk _).setCell (p := ⟨b, 4, none⟩) hk _).setCell (p := ⟨b, 6, none⟩) hk _).setCell (p := ⟨b, 7, none⟩) hk _).setCell (p := ⟨b, 8, none⟩) hk _).setCell (p := ⟨b, 9, none⟩) hk _).setCell (p := ⟨b, 10, none⟩) hk _
end Go.Proofs.YtfcgcpfckbmgnaaGreat
