/- Own texts, joined: Sg11, Sg15. -/
import Derived.Test.YtfnkhpijcbpeoaaDoorK38
import Derived.Test.YtfnkhpijcbpeoaaDoorK28
import Derived.Test.YtfnkhpijcbpeoaaDoorK24
namespace Go.Proofs.YtfnkhpijcbpeoaaDoor
open Go.ChangeShapes Go.WideShapes Go.ChangeAt Go.RowKit
set_option linter.unusedVariables false
/-- a segment's cells and value -/
abbrev SgA (x y c : Int) (s : Bool) (t : Int) (mv : Value) (g : Int) : Array Value := #[.int .i64 x, .int .i64 y, .int .i64 c, .bool s, .int .i64 t, mv, .int .i64 g]
abbrev SgV (x y c : Int) (s : Bool) (t : Int) (mv : Value) (g : Int) : Value := .agg (SgA x y c s t mv g)
def SegAt (w : World) (k : Nat) (x y c : Int) (s : Bool) (t : Int) (mv : Value) (g : Int) : Prop := w.heap[k]? = some (.cells (SgA x y c s t mv g) 40)
theorem Tryd.infoSeg : (Tryd.prog.info? 40).map (·.size) = some 7 := by kernel_rfl
section
variable {w w' : World} {k : Nat} {x y c : Int} {s : Bool} {t : Int} {mv : Value} {g : Int}
theorem SegAt.keep (h : SegAt w k x y c s t mv g) (hb : Below w.heap.size w w') : SegAt w' k x y c s t mv g := (hb.block k (lt_of_heap h)).trans h
theorem SegAt.new (w : World) (x y c : Int) (s : Bool) (t : Int) (mv : Value) (g : Int) : SegAt (w.alloc (.cells (SgA x y c s t mv g) 40)) w.heap.size x y c s t mv g := heap_alloc_new w _
theorem SegAt.at (h : SegAt w k x y c s t mv g) (j : Nat) : w.cell? ⟨k, j, none⟩ = (SgA x y c s t mv g)[j]? ∧ w.frozen? ⟨k, j, none⟩ = false := ⟨cell_of_row _ _ j _ _ _ h, frozen_of_row _ _ j _ _ h⟩
theorem SegAt.loadVar (h : SegAt w k x y c s t mv g) : (Go.loadVar 40 ⟨k, 0, none⟩).run Tryd.prog w = .ok (SgV x y c s t mv g) w :=
  run_loadVar_row _ _ _ _ _ _ _ h Tryd.underlying40 rfl Tryd.infoSeg
theorem SegAt.load (h : SegAt w k x y c s t mv g) : (Instr.loadAt 40 (.pointer (some ⟨k, 0, none⟩))).run Tryd.prog w = .ok (SgV x y c s t mv g) w := by
  simp only [Instr.loadAt, Instr.sureAddr, Sem.run_bind, Sem.run_pure, Result.andThen_ok, h.loadVar]
theorem seg_one (x y c : Int) (s : Bool) (t : Int) (mv : Value) (g : Int) (hv : mv.oneCell' = true) : (SgA x y c s t mv g).all (·.oneCell') = true := by
  simp [hv]; exact ⟨rfl, rfl, rfl, rfl, rfl, rfl⟩
theorem SegAt.set (h : SegAt w k x y c s t mv g) (j : Nat) (u : Value) : (w.setCell ⟨k, j, none⟩ u).heap[k]? = some (.cells ((SgA x y c s t mv g).set! j u) 40) := heap_setCell_same w k j _ _ u h
theorem SegAt.other (h : SegAt w k x y c s t mv g) (m : Nat) (hk : k ≠ m) (j : Nat) (u : Value) : SegAt (w.setCell ⟨m, j, none⟩ u) k x y c s t mv g := (heap_setCell_other w ⟨m, j, none⟩ k u hk).trans h
theorem SegAt.store (h : SegAt w k x y c s t mv g) (x2 y2 c2 : Int) (s2 : Bool) (t2 : Int) (mv2 : Value) (g2 : Int) (hv : mv2.oneCell' = true) : ∃ w2, (Instr.storeAt 40 (.pointer (some ⟨k, 0, none⟩)) (SgV x2 y2 c2 s2 t2 mv2 g2)).run Tryd.prog w = .ok () w2 ∧ SegAt w2 k x2 y2 c2 s2 t2 mv2 g2 ∧ (w2.os = w.os ∧ w2.tape = w.tape ∧ w2.output = w.output) ∧ (∀ j, j ≠ k → w2.heap[j]? = w.heap[j]?) ∧ w2.heap.size = w.heap.size := by
  refine ⟨w.setRow k (SgA x2 y2 c2 s2 t2 mv2 g2), ?_, ?_, ⟨rfl, rfl, rfl⟩, fun j hj => ?_, ?_⟩
  · simp only [Instr.storeAt, Instr.sureAddr, Sem.run_bind, Sem.run_pure, Result.andThen_ok, run_storeVar_row w k 40 40 (SgA x y c s t mv g) (SgA x2 y2 c2 s2 t2 mv2 g2) h Tryd.infoSeg rfl (seg_one x2 y2 c2 s2 t2 mv2 g2 hv)]
  · unfold SegAt at h ⊢
    simp [World.setRow, Array.getElem?_modify, h]
  · simp only [World.setRow, Array.getElem?_modify]
    rw [if_neg (Ne.symm hj)]
  · simp [World.setRow]
end
theorem wpList_load_seg {ops : Array Oper} {rest : List Oper} {o : Oper} {a : Act} {w : World} {Q : Exit → Act → World → Prop} (hgd : o.guard = none) (p : Operand) (ho : o.op = .load 40 p)
    {k : Nat} {x y c : Int} {s : Bool} {t : Int} {mv : Value} {g : Int} (hL : SegAt w k x y c s t mv g) (hx : a.eval p = .pointer (some ⟨k, 0, none⟩)) (h : wpList Tryd.prog ops Q rest (a.put o.dst (SgV x y c s t mv g)) w) : wpList Tryd.prog ops Q (o :: rest) a w :=
  wpList_plain hgd fun _ hK => by
    unfold Oper.wp execOp
    simp only [ho, hx, Sem.run_bind, Sem.run_pure, Result.andThen_ok, hL.load]
    exact hK _ _ h
theorem wpList_store_seg {ops : Array Oper} {rest : List Oper} {o : Oper} {a : Act} {w : World} {Q : Exit → Act → World → Prop} (hgd : o.guard = none) (p q : Operand) (ho : o.op = .store 40 p q) (hd : o.dst = none)
    {k : Nat} {x y c : Int} {s : Bool} {t : Int} {mv : Value} {g : Int} {x2 y2 c2 : Int} {s2 : Bool} {t2 : Int} {mv2 : Value} {g2 : Int} (hL : SegAt w k x y c s t mv g) (hv : mv2.oneCell' = true) (hx : a.eval p = .pointer (some ⟨k, 0, none⟩)) (hy : a.eval q = SgV x2 y2 c2 s2 t2 mv2 g2)
    (h : ∀ w2, SegAt w2 k x2 y2 c2 s2 t2 mv2 g2 → (w2.os = w.os ∧ w2.tape = w.tape ∧ w2.output = w.output) → (∀ j, j ≠ k → w2.heap[j]? = w.heap[j]?) → w2.heap.size = w.heap.size → wpList Tryd.prog ops Q rest a w2) : wpList Tryd.prog ops Q (o :: rest) a w :=
  wpList_plain hgd fun _ hK => by
    obtain ⟨w2, h1, h2, h3, h4, h5⟩ := hL.store x2 y2 c2 s2 t2 mv2 g2 hv
    unfold Oper.wp execOp
    simp only [ho, hx, hy, Sem.run_bind, Sem.run_pure, Result.andThen_ok, h1]
    have hp : a.put o.dst undef = a := by rw [hd]; rfl
    exact hK _ _ (by rw [hp]; exact h w2 h2 h3 h4 h5)
theorem results_seg3 {fn : Func} {p t u : Tmp} (h : fn.results = #[.cell p 40, .tmp t, .tmp u]) (tmps : Array Value) (w : World) (k : Nat) {x y c : Int} {s : Bool} {r : Int} {mv : Value} {g : Int} (hp : tmps.getD p undef = .pointer (some ⟨k, 0, none⟩)) (hl : SegAt w k x y c s r mv g) :
    (results fn tmps).run Tryd.prog w = .ok (.tuple #[SgV x y c s r mv g, tmps.getD t undef, tmps.getD u undef]) w := by
  simp only [Array.getD_eq_getD_getElem?] at hp
  simp [results, h, hp, asAddr, hl.loadVar]
/-- a row of another type stays where one block is written anew -/
theorem row_one {w w2 : World} {base n size k T : Nat} {e : TypeId} {v : Value} {xs : List Value} {c : Array Value} {m : Nat × Nat} (ho : w.ownsRow base e size v n xs) (hk : w.heap[k]? = some (.cells c T m)) (hT : T ≠ e) (hh : ∀ j, j ≠ k → w2.heap[j]? = w.heap[j]?) : w2.ownsRow base e size v n xs := by
  refine ⟨ho.1, ?_⟩
  rcases ho.2 with h2 | ⟨g, cap, cur, h3, h4, h5, h6⟩
  · exact .inl h2
  · refine .inr ⟨g, cap, cur, h3, h4, (hh g ?_).trans h5, h6⟩
    rintro rfl
    have h7 := hk.symm.trans h5
    cases h7
    exact hT rfl
theorem ownP_one {w w2 : World} {base k : Nat} {v : Value} {xs : List It} {x y c : Int} {s : Bool} {t : Int} {mv : Value} {g : Int} (h : OwnP w base v xs) (hk : SegAt w k x y c s t mv g) (hh : ∀ j, j ≠ k → w2.heap[j]? = w.heap[j]?) : OwnP w2 base v xs :=
  ⟨row_one h.1 hk (by decide) hh, fun z hz => ⟨(h.2 z hz).1, row_one (h.2 z hz).2 hk (by decide) hh⟩⟩
theorem set_one (w : World) (k j : Nat) (u : Value) : ∀ i, i ≠ k → (w.setCell ⟨k, j, none⟩ u).heap[i]? = w.heap[i]? := fun i hi => heap_setCell_other w ⟨k, j, none⟩ i u hi
/-- the events of a segment, where they end, the stride and the size of its footer, its marks -/
def sgE (l : List Nat) : List Fm := runL l (pn l + 20) (hoY l : Int) 512
def sgG (l : List Nat) : Nat := endZ (pn l + 20) (sgE l)
def sgF (l : List Nat) : Nat := ftS (l.drop (sgG l)) (hoX l) (hoY l) (sgE l)
def sgN (l : List Nat) : Nat := ftN (l.drop (sgG l)) (hoX l) (hoY l) (sgE l)
def sgM (l : List Nat) : List Mk := if sgF l = 0 then [] else bldL (sgF l : Int) ((sgE l).map evP)
/-- what Scan answers -/
def ScanP (l : List Nat) (base : Nat) (e : Ending) (w' : World) : Prop :=
  (hdr l = none ∧ e = .returned (.tuple #[SgV 0 0 0 false 0 (.slice none 0 0) 0, .slice none 0 0, .int .i64 71])) ∨
  ((hdr l).isSome = true ∧ ∃ (xs : List It) (v mv : Value), xs.map It.fm = sgE l ∧ e = .returned (.tuple #[SgV (hoX l : Nat) (hoY l : Nat) ((sgE l).length : Nat) (decide (0 < sgF l)) (sgF l : Nat) mv ((sgG l : Int) + (sgN l : Int)), v, .int .i64 0]) ∧ OwnP w' base v xs ∧ OwnM w' base mv (sgM l))
theorem runEnd (l : List Nat) (d y : Nat) (hd : d ≤ l.length) : d ≤ endZ d (runL l d (y : Int) 512) ∧ endZ d (runL l d (y : Int) 512) ≤ l.length := by
  unfold endZ
  cases hg : (runL l d (y : Int) 512).getLast? with
  | none => exact ⟨Nat.le_refl _, hd⟩
  | some f =>
    have hm := List.mem_of_getLast? hg
    unfold runL at hm
    obtain ⟨g, hg2, rfl⟩ := List.mem_map.1 hm
    have h1 := (scanL_facts _ g ((runN_pre _ _ _ _).subset hg2)).2
    rw [List.length_drop] at h1
    simp only [sh]
    omega
end Go.Proofs.YtfnkhpijcbpeoaaDoor
namespace Go.Proofs.YtfnkhpijcbpeoaaDoor
open Go.ChangeShapes Go.WideShapes Go.ChangeAt Go.RowKit
set_option linter.unusedVariables false
theorem wpList_want2 {ops : Array Oper} {rest : List Oper} {o : Oper} {a : Act} {w : World} {Q : Exit → Act → World → Prop} (hw : Region.wanted o (yielded ops a.tmps) = true) (h : ∀ K : Act → World → Prop, (∀ a' w', wpList Tryd.prog ops Q rest a' w' → K a' w') → Oper.wp Tryd.prog o a w K Q) : wpList Tryd.prog ops Q (o :: rest) a w :=
  wpList_step fun K hK => by rw [if_pos hw]; exact h K hK
theorem frm_loadg {ops : Array Oper} {rest : List Oper} {a : Act} {w : World} {Q : Exit → Act → World → Prop} {dst : Option Tmp} {ty : TypeId} {pos : String} {after : Array Edge} {x : Operand} {g : Nat × Bool} (t : TypeId)
    (h : wpList Tryd.prog ops Q (⟨dst, .load t x, ty, pos, after, some g⟩ :: rest) a w) : wpList Tryd.prog ops Q (⟨dst, .load t x, ty, pos, after, some g⟩ :: rest) a w := h
theorem wpList_load_segg {ops : Array Oper} {rest : List Oper} {o : Oper} {a : Act} {w : World} {Q : Exit → Act → World → Prop} (hw : Region.wanted o (yielded ops a.tmps) = true) (p : Operand) (ho : o.op = .load 40 p)
    {k : Nat} {x y c : Int} {s : Bool} {t : Int} {mv : Value} {g : Int} (hL : SegAt w k x y c s t mv g) (hx : a.eval p = .pointer (some ⟨k, 0, none⟩)) (h : wpList Tryd.prog ops Q rest (a.put o.dst (SgV x y c s t mv g)) w) : wpList Tryd.prog ops Q (o :: rest) a w :=
  wpList_want2 hw fun _ hK => by
    unfold Oper.wp execOp
    simp only [ho, hx, Sem.run_bind, Sem.run_pure, Result.andThen_ok, hL.load]
    exact hK _ _ h
end Go.Proofs.YtfnkhpijcbpeoaaDoor
