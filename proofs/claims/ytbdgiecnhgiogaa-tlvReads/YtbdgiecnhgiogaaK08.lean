/- Own texts, joined: Tlw. -/
import Derived.Test.YtbdgiecnhgiogaaK05
import Derived.Test.YtbdgiecnhgiogaaK07
import Derived.Laws.ResultCell
import Derived.Deep.Onto
namespace Go.Proofs.Ytbdgiecnhgiogaa
open Go.ChangeShapes Go.WideShapes Go.ChangeAt Go.RowKit
set_option linter.unusedVariables false
theorem Try.infoFl : (Try.prog.info? 32).map (·.size) = some 4 := by kernel_rfl
theorem FldAt.loadVar {w : World} {k : Nat} {tag : Int} {text : Bool} {num : Nat} {bv : Value} (h : FldAt w k tag text num bv) : (Go.loadVar 32 ⟨k, 0, none⟩).run Try.prog w = .ok (FV tag text num bv) w :=
  run_loadVar_row _ _ _ _ _ _ _ h Try.underlying32 rfl Try.infoFl
theorem FldAt.load {w : World} {k : Nat} {tag : Int} {text : Bool} {num : Nat} {bv : Value} (h : FldAt w k tag text num bv) : (Instr.loadAt 32 (.pointer (some ⟨k, 0, none⟩))).run Try.prog w = .ok (FV tag text num bv) w := by
  simp only [Instr.loadAt, Instr.sureAddr, Sem.run_bind, Sem.run_pure, Result.andThen_ok, h.loadVar]
theorem fld_one (tag : Int) (text : Bool) (num : Nat) (bv : Value) (hv : bv.oneCell' = true) : (#[.int .i64 tag, .bool text, .int .u64 (num : Int), bv] : Array Value).all (·.oneCell') = true := by
  simp [hv]; exact ⟨rfl, rfl, rfl⟩
theorem FldAt.store {w : World} {k : Nat} {tag : Int} {text : Bool} {num : Nat} {bv : Value} (h : FldAt w k tag text num bv) (tag2 : Int) (text2 : Bool) (num2 : Nat) (bv2 : Value) (hv : bv2.oneCell' = true) : ∃ w2, (Instr.storeAt 32 (.pointer (some ⟨k, 0, none⟩)) (FV tag2 text2 num2 bv2)).run Try.prog w = .ok () w2 ∧ FldAt w2 k tag2 text2 num2 bv2 ∧ (w2.os = w.os ∧ w2.tape = w.tape ∧ w2.output = w.output) ∧ (∀ j, j ≠ k → w2.heap[j]? = w.heap[j]?) ∧ w2.heap.size = w.heap.size := by
  refine ⟨w.setRow k #[.int .i64 tag2, .bool text2, .int .u64 (num2 : Int), bv2], ?_, ?_, ⟨rfl, rfl, rfl⟩, fun j hj => ?_, ?_⟩
  · simp only [Instr.storeAt, Instr.sureAddr, Sem.run_bind, Sem.run_pure, Result.andThen_ok, run_storeVar_row w k 32 32 #[.int .i64 tag, .bool text, .int .u64 (num : Int), bv] #[.int .i64 tag2, .bool text2, .int .u64 (num2 : Int), bv2] h Try.infoFl rfl (fld_one tag2 text2 num2 bv2 hv)]
  · unfold FldAt at h ⊢
    simp [World.setRow, Array.getElem?_modify, h]
  · simp only [World.setRow, Array.getElem?_modify]
    rw [if_neg (Ne.symm hj)]
  · simp [World.setRow]
theorem wpList_load_fld {ops : Array Oper} {rest : List Oper} {o : Oper} {a : Act} {w : World} {Q : Exit → Act → World → Prop} (hgd : o.guard = none) (x : Operand) (ho : o.op = .load 32 x)
    {k : Nat} {tag : Int} {text : Bool} {num : Nat} {bv : Value} (hL : FldAt w k tag text num bv) (hx : a.eval x = .pointer (some ⟨k, 0, none⟩)) (h : wpList Try.prog ops Q rest (a.put o.dst (FV tag text num bv)) w) : wpList Try.prog ops Q (o :: rest) a w :=
  wpList_plain hgd fun _ hK => by
    unfold Oper.wp execOp
    simp only [ho, hx, Sem.run_bind, Sem.run_pure, Result.andThen_ok, hL.load]
    exact hK _ _ h
theorem wpList_store_fld {ops : Array Oper} {rest : List Oper} {o : Oper} {a : Act} {w : World} {Q : Exit → Act → World → Prop} (hgd : o.guard = none) (x y : Operand) (ho : o.op = .store 32 x y)
    {k : Nat} {tag tag2 : Int} {text text2 : Bool} {num num2 : Nat} {bv bv2 : Value} (hL : FldAt w k tag text num bv) (hv : bv2.oneCell' = true) (hx : a.eval x = .pointer (some ⟨k, 0, none⟩)) (hy : a.eval y = FV tag2 text2 num2 bv2)
    (h : ∀ w2, FldAt w2 k tag2 text2 num2 bv2 → (w2.os = w.os ∧ w2.tape = w.tape ∧ w2.output = w.output) → (∀ j, j ≠ k → w2.heap[j]? = w.heap[j]?) → w2.heap.size = w.heap.size → wpList Try.prog ops Q rest (a.put o.dst undef) w2) : wpList Try.prog ops Q (o :: rest) a w :=
  wpList_plain hgd fun _ hK => by
    obtain ⟨w2, h1, h2, h3, h4, h5⟩ := hL.store tag2 text2 num2 bv2 hv
    unfold Oper.wp execOp
    simp only [ho, hx, hy, Sem.run_bind, Sem.run_pure, Result.andThen_ok, h1]
    exact hK _ _ (h w2 h2 h3 h4 h5)
theorem results_fld {fn : Func} {p : Tmp} (h : fn.results = #[.cell p 32]) (tmps : Array Value) (w : World) (k : Nat) {tag : Int} {text : Bool} {num : Nat} {bv : Value} (hp : tmps.getD p undef = .pointer (some ⟨k, 0, none⟩)) (hl : FldAt w k tag text num bv) :
    (results fn tmps).run Try.prog w = .ok (FV tag text num bv) w := by
  simp only [Array.getD_eq_getD_getElem?] at hp
  simp [results, h, hp, asAddr, hl.loadVar]
theorem own_same {w w' : World} {base : Nat} {e : TypeId} {size : Nat} {v : Value} {n : Nat} {xs : List Value} (h : w.ownsRow base e size v n xs) (hs : ∀ k, base ≤ k → w'.heap[k]? = w.heap[k]?) : w'.ownsRow base e size v n xs := by
  refine ⟨h.1, ?_⟩
  rcases h.2 with h2 | ⟨g, cap, cur, h3, h4, h5, h6⟩
  · exact .inl h2
  · exact .inr ⟨g, cap, cur, h3, h4, (hs g h4).trans h5, h6⟩
theorem FldAt.setNum {w : World} {k : Nat} {tag : Int} {text : Bool} {num : Nat} {bv : Value} (h : FldAt w k tag text num bv) (u : Nat) : FldAt (w.setCell ⟨k, 2, none⟩ (.int .u64 (u : Int))) k tag text u bv := by
  unfold FldAt; rw [heap_setCell_same w k 2 _ _ _ h]; rfl
theorem FldAt.setBytes {w : World} {k : Nat} {tag : Int} {text : Bool} {num : Nat} {bv : Value} (h : FldAt w k tag text num bv) (v : Value) : FldAt (w.setCell ⟨k, 3, none⟩ v) k tag text num v := by
  unfold FldAt; rw [heap_setCell_same w k 3 _ _ _ h]; rfl
end Go.Proofs.Ytbdgiecnhgiogaa
