/- Own texts, joined: Tlw, Tlu. -/
import Derived.Test.YtfdaefhamoeaiaaK00
import Derived.Test.YtfdaefhamoeaiaaK23
import Derived.Laws.ResultCell
import Derived.Deep.Onto
import Derived.Test.YtfdaefhamoeaiaaK21
import Derived.Deep.RegionHeld3
namespace Go.Proofs.Ytfdaefhamoeaiaa
open Go.ChangeShapes Go.WideShapes Go.ChangeAt Go.RowKit
set_option linter.unusedVariables false
theorem Try.infoFl : (Try.prog.info? 65).map (·.size) = some 4 := by kernel_rfl
theorem FldAt.loadVar {w : World} {k : Nat} {tag : Int} {text : Bool} {num : Nat} {bv : Value} (h : FldAt w k tag text num bv) : (Go.loadVar 65 ⟨k, 0, none⟩).run Try.prog w = .ok (FV tag text num bv) w :=
  run_loadVar_row _ _ _ _ _ _ _ h Try.underlying65 rfl Try.infoFl
theorem FldAt.load {w : World} {k : Nat} {tag : Int} {text : Bool} {num : Nat} {bv : Value} (h : FldAt w k tag text num bv) : (Instr.loadAt 65 (.pointer (some ⟨k, 0, none⟩))).run Try.prog w = .ok (FV tag text num bv) w := by
  simp only [Instr.loadAt, Instr.sureAddr, Sem.run_bind, Sem.run_pure, Result.andThen_ok, h.loadVar]
theorem fld_one (tag : Int) (text : Bool) (num : Nat) (bv : Value) (hv : bv.oneCell' = true) : (#[.int .i64 tag, .bool text, .int .u64 (num : Int), bv] : Array Value).all (·.oneCell') = true := by
  simp [hv]; exact ⟨rfl, rfl, rfl⟩
theorem FldAt.store {w : World} {k : Nat} {tag : Int} {text : Bool} {num : Nat} {bv : Value} (h : FldAt w k tag text num bv) (tag2 : Int) (text2 : Bool) (num2 : Nat) (bv2 : Value) (hv : bv2.oneCell' = true) : ∃ w2, (Instr.storeAt 65 (.pointer (some ⟨k, 0, none⟩)) (FV tag2 text2 num2 bv2)).run Try.prog w = .ok () w2 ∧ FldAt w2 k tag2 text2 num2 bv2 ∧ (w2.os = w.os ∧ w2.tape = w.tape ∧ w2.output = w.output) ∧ (∀ j, j ≠ k → w2.heap[j]? = w.heap[j]?) ∧ w2.heap.size = w.heap.size := by
  refine ⟨w.setRow k #[.int .i64 tag2, .bool text2, .int .u64 (num2 : Int), bv2], ?_, ?_, ⟨rfl, rfl, rfl⟩, fun j hj => ?_, ?_⟩
  · simp only [Instr.storeAt, Instr.sureAddr, Sem.run_bind, Sem.run_pure, Result.andThen_ok, run_storeVar_row w k 65 65 #[.int .i64 tag, .bool text, .int .u64 (num : Int), bv] #[.int .i64 tag2, .bool text2, .int .u64 (num2 : Int), bv2] h Try.infoFl rfl (fld_one tag2 text2 num2 bv2 hv)]
  · unfold FldAt at h ⊢
    simp [World.setRow, Array.getElem?_modify, h]
  · simp only [World.setRow, Array.getElem?_modify]
    rw [if_neg (Ne.symm hj)]
  · simp [World.setRow]
theorem wpList_load_fld {ops : Array Oper} {rest : List Oper} {o : Oper} {a : Act} {w : World} {Q : Exit → Act → World → Prop} (hgd : o.guard = none) (x : Operand) (ho : o.op = .load 65 x)
    {k : Nat} {tag : Int} {text : Bool} {num : Nat} {bv : Value} (hL : FldAt w k tag text num bv) (hx : a.eval x = .pointer (some ⟨k, 0, none⟩)) (h : wpList Try.prog ops Q rest (a.put o.dst (FV tag text num bv)) w) : wpList Try.prog ops Q (o :: rest) a w :=
  wpList_plain hgd fun _ hK => by
    unfold Oper.wp execOp
    simp only [ho, hx, Sem.run_bind, Sem.run_pure, Result.andThen_ok, hL.load]
    exact hK _ _ h
theorem wpList_store_fld {ops : Array Oper} {rest : List Oper} {o : Oper} {a : Act} {w : World} {Q : Exit → Act → World → Prop} (hgd : o.guard = none) (x y : Operand) (ho : o.op = .store 65 x y)
    {k : Nat} {tag tag2 : Int} {text text2 : Bool} {num num2 : Nat} {bv bv2 : Value} (hL : FldAt w k tag text num bv) (hv : bv2.oneCell' = true) (hx : a.eval x = .pointer (some ⟨k, 0, none⟩)) (hy : a.eval y = FV tag2 text2 num2 bv2)
    (h : ∀ w2, FldAt w2 k tag2 text2 num2 bv2 → (w2.os = w.os ∧ w2.tape = w.tape ∧ w2.output = w.output) → (∀ j, j ≠ k → w2.heap[j]? = w.heap[j]?) → w2.heap.size = w.heap.size → wpList Try.prog ops Q rest (a.put o.dst undef) w2) : wpList Try.prog ops Q (o :: rest) a w :=
  wpList_plain hgd fun _ hK => by
    obtain ⟨w2, h1, h2, h3, h4, h5⟩ := hL.store tag2 text2 num2 bv2 hv
    unfold Oper.wp execOp
    simp only [ho, hx, hy, Sem.run_bind, Sem.run_pure, Result.andThen_ok, h1]
    exact hK _ _ (h w2 h2 h3 h4 h5)
theorem results_fld {fn : Func} {p : Tmp} (h : fn.results = #[.cell p 65]) (tmps : Array Value) (w : World) (k : Nat) {tag : Int} {text : Bool} {num : Nat} {bv : Value} (hp : tmps.getD p undef = .pointer (some ⟨k, 0, none⟩)) (hl : FldAt w k tag text num bv) :
    (results fn tmps).run Try.prog w = .ok (FV tag text num bv) w := by
  simp only [Array.getD_eq_getD_getElem?] at hp
  simp [results, h, hp, asAddr, hl.loadVar]
theorem own_same {w w' : World} {base : Nat} {e : TypeId} {size : Nat} {v : Value} {n : Nat} {xs : List Value} (h : w.ownsRow base e size v n xs) (hs : ∀ k, base ≤ k → w'.heap[k]? = w.heap[k]?) : w'.ownsRow base e size v n xs := by
  refine ⟨h.1, ?_⟩
  rcases h.2 with h2 | ⟨g, cap, cur, h3, h4, h5, h6⟩
  · exact .inl h2
  · exact .inr ⟨g, cap, cur, h3, h4, (hs g h4).trans h5, h6⟩
theorem FldAt.setNum {w : World} {k : Nat} {tag : Int} {text : Bool} {num : Nat} {bv : Value} (h : FldAt w k tag text num bv) (u : Nat) : FldAt (w.setCell ⟨k, 2, none⟩ (.int .u64 (u : Int))) k tag text u bv := by
  unfold FldAt; rw [heap_setCell_same w k 2 _ _ _ h]; rfl
theorem FldAt.setBytes {w : World} {k : Nat} {tag : Int} {text : Bool} {num : Nat} {bv : Value} (h : FldAt w k tag text num bv) (v : Value) : FldAt (w.setCell ⟨k, 3, none⟩ v) k tag text num v := by
  unfold FldAt; rw [heap_setCell_same w k 3 _ _ _ h]; rfl
end Go.Proofs.Ytfdaefhamoeaiaa
namespace Go.Proofs.Ytfdaefhamoeaiaa
open Go.ChangeShapes Go.WideShapes Go.ChangeAt Go.RowKit
set_option linter.unusedVariables false
set_option maxRecDepth 20000 in
set_option maxHeartbeats 1000000 in
theorem text_ok (l : List Nat) (b off n cap i u c : Nat) (w : World) (hc : CurAt w c (some ⟨b, off, none⟩) n cap i) (hn : l.length = n) (hb : Bytes w (some ⟨b, off, none⟩) l) (hcap : n ≤ cap) (hu : ¬ 200 < u) (hu0 : 0 < u) (hl : n ≤ 1024) (hs : i + u ≤ n) :
    Calls Try.prog 73 #[.pointer (some ⟨c, 0, none⟩), .int .u64 (u : Int)] w fun r w' => ∃ v, r = .returned v ∧ Own w' w.heap.size v ((l.drop i).take u) ∧ CurAt w' c (some ⟨b, off, none⟩) n cap (i + u) ∧ Kept c c w w' := by
  obtain ⟨h0, h1, h2⟩ := hc.cells
  have HC : Hid (CurAt w c (some ⟨b, off, none⟩) n cap i) := hc
  have HBq : Hid (Bytes w (some ⟨b, off + i, none⟩) ((l.drop i).take u)) := (hb.drop i).take u
  have HL2 : Hid (((l.drop i).take u).length = u) := by show _ = _; rw [List.length_take, List.length_drop, hn]; omega
  obtain ⟨E, hE⟩ : ∃ E : Nat, i + u = E := ⟨_, rfl⟩
  have hEI : (i : Int) + (u : Int) = (E : Int) := by omega
  have hiE : (i : Int) ≤ (E : Int) := by omega
  have hEn : (E : Int) ≤ (n : Int) := by omega
  have hEc : (E : Int) ≤ (cap : Int) := by omega
  have hEk : (E : Int) ≤ 1024 := by omega
  have hi0 : (0 : Int) ≤ (i : Int) := by omega
  have HEu : Hid (E - i = u) := by show _ = _; omega
  have HLE : Hid (((l.drop i).take u).length = E - i) := by show _ = _; rw [HL2.out]; omega
  have hEi : 0 < E - i := by omega
  have hEi2 : E - i ≤ 140737488355328 := by omega
  have hci : ¬ cap = i := by omega
  rw [hE]
  clear hc hb hn hE
  go_enter Try.func73, Try.ntmps73
  go_wp2
  go_region_held3 (fun w' => w'.cell? ⟨c, 0, none⟩ = some (.slice (some ⟨b, off, none⟩) n cap) ∧ w'.cell? ⟨c, 1, none⟩ = some (.int .i64 (i : Int))) (go_keep) ((go_at_call 47; refine (clone_any _ _ _ _ _ _ HLE.out hEi (HBq.out.drewN 1) hEi2).mono ?_; rintro r w1 ⟨v, rfl, ho, hb1⟩; have hcu := (HC.out.drewN 1).keep hb1; obtain ⟨g0, g1, g2⟩ := hcu.cells; have HO : Hid (Own w1 w.heap.size v ((l.drop i).take u)) := ho; have HB1 : Hid (Below w.heap.size (w.drewN 1) w1) := hb1; have HC1 : Hid (CurAt w1 c (some ⟨b, off, none⟩) n cap i) := hcu; clear ho hb1 hcu))
  go_wp2
  go_ret
  refine ⟨v, rfl, ⟨HO.out.1, ownsRow_setCell_below HO.out.2 (a := ⟨c, 1, none⟩) (show c < w.heap.size from lt_of_heap (show w.heap[c]? = _ from HC.out)) _⟩, HC1.out.to E, ?_⟩
  have hkp : Kept c c w w1 := ⟨HB1.out.os, HB1.out.tape, HB1.out.output, HB1.out.size, fun k hk _ _ => HB1.out.block k hk⟩
  exact hkp.set 1 _
end Go.Proofs.Ytfdaefhamoeaiaa
