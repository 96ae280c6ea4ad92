/- A manifest: in the abstract, in memory; segments in memory, rows of a call's own. -/
import Derived.Test.YtoneaannbmkeiaaDoorNb
import Derived.Test.YtoneaannbmkeiaaDoorFr4
import Derived.Deep.Fields
namespace Go.Proofs.YtoneaannbmkeiaaDoor
open Go.ChangeShapes Go.WideShapes Go.ChangeAt Go.RowKit
set_option linter.unusedVariables false
/-- what a manifest says of a segment -/
structure Sm where
  num : Int
  first : Int
  count : Int
  foot : Int
/-- the cells of a list of segments -/
def sfl : List Sm → List Value
  | [] => []
  | p :: r => .int .i64 p.num :: .int .i64 p.first :: .int .i64 p.count :: .int .i64 p.foot :: sfl r
theorem sfl_append : ∀ (L M : List Sm), sfl (L ++ M) = sfl L ++ sfl M
  | [], M => rfl
  | p :: r, M => by simp only [List.cons_append, sfl, sfl_append r M]
theorem sfl_length : ∀ (L : List Sm), (sfl L).length = L.length * 4
  | [] => rfl
  | p :: r => by simp only [sfl, List.length_cons, sfl_length r]; omega
theorem sfl_one : ∀ (L : List Sm), ∀ u ∈ sfl L, u.oneCell' = true
  | [], u, h => by cases h
  | p :: r, u, h => by
    simp only [sfl, List.mem_cons] at h
    rcases h with rfl | rfl | rfl | rfl | h
    · rfl
    · rfl
    · rfl
    · rfl
    · exact sfl_one r u h
theorem sfl_get : ∀ (L : List Sm) (k : Nat) (p : Sm), L[k]? = some p → (sfl L)[k * 4]? = some (.int .i64 p.num) ∧ (sfl L)[k * 4 + 1]? = some (.int .i64 p.first) ∧ (sfl L)[k * 4 + 2]? = some (.int .i64 p.count) ∧ (sfl L)[k * 4 + 3]? = some (.int .i64 p.foot)
  | q :: r, 0, p, h => by simp at h; subst h; exact ⟨rfl, rfl, rfl, rfl⟩
  | q :: r, k + 1, p, h => by
    have := sfl_get r k p (by simpa using h)
    rw [show (k + 1) * 4 = k * 4 + 4 from by omega]
    simpa [sfl] using this
  | [], k, p, h => by simp at h
theorem sm_lt {α : Type} {L : List α} {k : Nat} {p : α} (h : L[k]? = some p) : k < L.length := by
  by_cases hh : k < L.length
  · exact hh
  · rw [List.getElem?_eq_none (by omega)] at h; cases h
theorem sm_get {α : Type} {L : List α} {k : Nat} (h : k < L.length) : ∃ p, L[k]? = some p := ⟨_, List.getElem?_eq_getElem h⟩
theorem sm_take {α : Type} (L : List α) (k : Nat) (p : α) (h : L[k]? = some p) : L.take (k + 1) = L.take k ++ [p] := by
  have hk := sm_lt h
  rw [List.take_succ_eq_append_getElem hk]
  rw [List.getElem?_eq_getElem hk] at h
  cases h; rfl
theorem sm_drop {α : Type} (L : List α) (k : Nat) (p : α) (h : L[k]? = some p) : L.drop k = p :: L.drop (k + 1) := by
  have hk := sm_lt h
  rw [List.drop_eq_getElem_cons hk]
  rw [List.getElem?_eq_getElem hk] at h
  cases h; rfl
/-- the segments L lie from address a on -/
def Sms (w : World) (a : Option Addr) (L : List Sm) : Prop :=
  L = [] ∨ ∃ b off, a = some ⟨b, off, none⟩ ∧ b < w.heap.size ∧ ∀ j, j < L.length * 4 → w.cell? ⟨b, off + j, none⟩ = (sfl L)[j]?
theorem Sms.keep {w w' : World} {a : Option Addr} {L : List Sm} (h : Sms w a L) (hb : Below w.heap.size w w') : Sms w' a L := by
  rcases h with h1 | ⟨b, off, h1, h2, h3⟩
  · exact .inl h1
  · exact .inr ⟨b, off, h1, Nat.lt_of_lt_of_le h2 hb.size, fun j hj => (hb.cell (p := ⟨b, off + j, none⟩) h2).trans (h3 j hj)⟩
theorem Sms.cells {w : World} {a : Option Addr} {L : List Sm} (h : Sms w a L) (k : Nat) (p : Sm) (hp : L[k]? = some p) : ∃ b off, a = some ⟨b, off, none⟩ ∧ b < w.heap.size ∧ w.cell? ⟨b, off + k * 4, none⟩ = some (.int .i64 p.num) ∧ w.cell? ⟨b, off + k * 4 + 1, none⟩ = some (.int .i64 p.first) ∧ w.cell? ⟨b, off + k * 4 + 2, none⟩ = some (.int .i64 p.count) ∧ w.cell? ⟨b, off + k * 4 + 3, none⟩ = some (.int .i64 p.foot) := by
  have hk := sm_lt hp
  obtain ⟨f0, f1, f2, f3⟩ := sfl_get L k p hp
  rcases h with rfl | ⟨b, off, rfl, hlt, h⟩
  · simp at hp
  · exact ⟨b, off, rfl, hlt, (h (k * 4) (by omega)).trans f0, (h (k * 4 + 1) (by omega)).trans f1, (h (k * 4 + 2) (by omega)).trans f2, (h (k * 4 + 3) (by omega)).trans f3⟩
/-- the value v is a row of the call's own that holds the segments L -/
def OwnSm (w : World) (base : Nat) (v : Value) (L : List Sm) : Prop := w.ownsRow base 43 4 v L.length (sfl L)
theorem OwnSm.shape {w : World} {base : Nat} {v : Value} {L : List Sm} (h : OwnSm w base v L) :
    ∃ a cap, v = .slice a L.length cap ∧ L.length ≤ cap ∧ cap ≤ maxLen ∧ Sms w a L ∧ ((a = none ∧ L = [] ∧ cap = 0) ∨ ∃ g, a = some ⟨g, 0, none⟩ ∧ base ≤ g ∧ g < w.heap.size) := by
  have h' := h
  obtain ⟨h1, h2⟩ := h
  rcases h2 with ⟨rfl, hn⟩ | ⟨g, cap, cur, rfl, hb, hg, hnc, hcm, hcs, htake⟩
  · have : L = [] := List.length_eq_zero_iff.1 hn
    subst this
    exact ⟨none, 0, rfl, Nat.le_refl _, by simp, .inl rfl, .inl ⟨rfl, rfl, rfl⟩⟩
  · have hlt := lt_of_heap hg
    refine ⟨some ⟨g, 0, none⟩, cap, rfl, hnc, hcm, .inr ⟨g, 0, rfl, hlt, fun j hj => ?_⟩, .inr ⟨g, rfl, hb, hlt⟩⟩
    rw [Nat.zero_add]
    exact World.ownsRow.cellAt h' j hj
theorem OwnSm.keep {w w' : World} {base : Nat} {v : Value} {L : List Sm} (h : OwnSm w base v L) (hb : Below w.heap.size w w') : OwnSm w' base v L := own_below h hb
theorem OwnSm.nil (w : World) (base : Nat) : OwnSm w base (.slice none 0 0) [] := World.ownsRow_nil w base _ 4
theorem OwnSm.lit (w : World) : OwnSm (w.alloc (.cells #[] 43)) w.heap.size (.slice (some ⟨w.heap.size, 0, none⟩) 0 0) [] := World.ownsRow_lit w #[] 0 (Nat.le_refl _) (by simp) rfl
theorem OwnSm.snoc {w : World} {base : Nat} {v : Value} {L : List Sm} {p : Sm} {n : Nat} (hn : L.length = n) (h : w.ownsRow base 43 4 v (n + 1) (sfl L ++ [.int .i64 p.num, .int .i64 p.first, .int .i64 p.count, .int .i64 p.foot])) : OwnSm w base v (L ++ [p]) := by
  unfold OwnSm
  rw [List.length_append, sfl_append, hn]
  exact h
theorem Tryd.infoSm : (Tryd.prog.info? 43).map (fun i => (i.zero, i.size, i.bytes)) = some (some (.agg #[.int .i64 0, .int .i64 0, .int .i64 0, .int .i64 0]), 4, 32) := by kernel_rfl
theorem below_setRowM {B : Nat} {a w : World} (h : Below B a w) (g : Nat) (c : Array Value) (hB : B ≤ g) : Below B a (w.setRow g c) := by
  refine ⟨h.os, h.tape, h.output, ?_, fun k hk => ?_⟩
  · have := h.size; simp [World.setRow]; exact this
  · rw [← h.block k hk]
    simp only [World.setRow, Array.getElem?_modify]
    rw [if_neg (by omega)]
theorem wpList_wantM {ops : Array Oper} {rest : List Oper} {o : Oper} {a : Act} {w : World} {Q : Exit → Act → World → Prop} (hw : Region.wanted o (yielded ops a.tmps) = true)
    (h : ∀ K : Act → World → Prop, (∀ a w, wpList Tryd.prog ops Q rest a w → K a w) → o.wp Tryd.prog a w K Q) : wpList Tryd.prog ops Q (o :: rest) a w :=
  wpList_step fun K hK => by rw [if_pos hw]; exact h K hK
theorem mf_loadg {ops : Array Oper} {rest : List Oper} {a : Act} {w : World} {Q : Exit → Act → World → Prop} {dst : Option Tmp} {ty : TypeId} {pos : String} {after : Array Edge} {x : Operand} {g : Nat × Bool} (t : TypeId)
    (h : wpList Tryd.prog ops Q (⟨dst, .load t x, ty, pos, after, some g⟩ :: rest) a w) : wpList Tryd.prog ops Q (⟨dst, .load t x, ty, pos, after, some g⟩ :: rest) a w := h
/-- a manifest -/
structure Mf where
  gen : Int
  next : Int
  floor : Int
  snap : Int
  snapSeq : Int
  segs : List Sm
/-- its cells, the segments being the slice v -/
abbrev mfA (m : Mf) (v : Value) : Array Value := #[.int .i64 m.gen, .int .i64 m.next, .int .i64 m.floor, .int .i64 m.snap, .int .i64 m.snapSeq, v]
abbrev MfV (m : Mf) (v : Value) : Value := .agg #[.int .i64 m.gen, .int .i64 m.next, .int .i64 m.floor, .int .i64 m.snap, .int .i64 m.snapSeq, v]
abbrev SmV (s : Sm) : Value := .agg #[.int .i64 s.num, .int .i64 s.first, .int .i64 s.count, .int .i64 s.foot]
def zeroM : Mf := ⟨0, 0, 0, 0, 0, []⟩
def MfAt (w : World) (b : Nat) (m : Mf) (v : Value) : Prop := w.heap[b]? = some (.cells (mfA m v) 24)
theorem MfAt.lt {w : World} {b : Nat} {m : Mf} {v : Value} (h : MfAt w b m v) : b < w.heap.size := lt_of_heap h
theorem MfAt.after {w w' : World} {b : Nat} {m : Mf} {v : Value} (h : MfAt w b m v) (hb : Below w.heap.size w w') : MfAt w' b m v := (hb.block b h.lt).trans h
theorem MfAt.cell {w : World} {b : Nat} {m : Mf} {v : Value} (h : MfAt w b m v) (i : Nat) (x : Value) (hx : (mfA m v)[i]? = some x) : w.cell? ⟨b, i, none⟩ = some x := by
  rw [cell_of_row w b i (mfA m v) 24 (0, 0) h]; exact hx
theorem MfAt.cells {w : World} {b : Nat} {m : Mf} {v : Value} (h : MfAt w b m v) : w.cell? ⟨b, 0, none⟩ = some (.int .i64 m.gen) ∧ w.cell? ⟨b, 1, none⟩ = some (.int .i64 m.next) ∧ w.cell? ⟨b, 2, none⟩ = some (.int .i64 m.floor) ∧ w.cell? ⟨b, 3, none⟩ = some (.int .i64 m.snap) ∧ w.cell? ⟨b, 4, none⟩ = some (.int .i64 m.snapSeq) ∧ w.cell? ⟨b, 5, none⟩ = some v :=
  ⟨h.cell 0 _ rfl, h.cell 1 _ rfl, h.cell 2 _ rfl, h.cell 3 _ rfl, h.cell 4 _ rfl, h.cell 5 _ rfl⟩
theorem MfAt.new (w : World) (m : Mf) (v : Value) : MfAt (w.alloc (.cells (mfA m v) 24)) w.heap.size m v := by
  unfold MfAt
  exact heap_alloc_new w _
theorem Tryd.infoMf : (Tryd.prog.info? 24).map (·.size) = some 6 := by kernel_rfl
theorem MfAt.loadVar {w : World} {b : Nat} {m : Mf} {v : Value} (h : MfAt w b m v) : (Go.loadVar 24 ⟨b, 0, none⟩).run Tryd.prog w = .ok (MfV m v) w :=
  run_loadVar_row _ _ _ _ _ _ _ h Tryd.underlying24 rfl Tryd.infoMf
theorem MfAt.load {w : World} {b : Nat} {m : Mf} {v : Value} (h : MfAt w b m v) : (Instr.loadAt 24 (.pointer (some ⟨b, 0, none⟩))).run Tryd.prog w = .ok (MfV m v) w := by
  simp only [Instr.loadAt, Instr.sureAddr, Sem.run_bind, Sem.run_pure, Result.andThen_ok, h.loadVar]
theorem mfA_one (m : Mf) (a : Option Addr) (n c : Nat) : (mfA m (.slice a n c)).all (·.oneCell') = true := by simp [mfA, Value.oneCell']
theorem MfAt.store {w : World} {b : Nat} {m : Mf} {v : Value} (h : MfAt w b m v) (m2 : Mf) (a : Option Addr) (n c : Nat) : ∃ w2, (Instr.storeAt 24 (.pointer (some ⟨b, 0, none⟩)) (MfV m2 (.slice a n c))).run Tryd.prog w = .ok () w2 ∧ MfAt w2 b m2 (.slice a n c) ∧ (∀ B a, Below B a w → B ≤ b → Below B a w2) ∧ (∀ k, k ≠ b → w2.heap[k]? = w.heap[k]?) ∧ w2.heap.size = w.heap.size := by
  refine ⟨w.setRow b (mfA m2 (.slice a n c)), ?_, ?_, fun B a hb hB => below_setRowM hb b _ hB, fun k hk => ?_, ?_⟩
  · simp only [Instr.storeAt, Instr.sureAddr, Sem.run_bind, Sem.run_pure, Result.andThen_ok, run_storeVar_row w b 24 24 (mfA m v) (mfA m2 (.slice a n c)) h Tryd.infoMf rfl (mfA_one m2 a n c)]
  · unfold MfAt at h ⊢
    simp [World.setRow, Array.getElem?_modify, h]
  · simp only [World.setRow, Array.getElem?_modify]
    rw [if_neg (Ne.symm hk)]
  · simp [World.setRow]
theorem wpList_load_mf {ops : Array Oper} {rest : List Oper} {o : Oper} {a : Act} {w : World} {Q : Exit → Act → World → Prop} (hgd : o.guard = none) (x : Operand) (ho : o.op = .load 24 x)
    {b : Nat} {m : Mf} {v : Value} (hL : MfAt w b m v) (hx : a.eval x = .pointer (some ⟨b, 0, none⟩)) (h : wpList Tryd.prog ops Q rest (a.put o.dst (MfV m v)) w) : wpList Tryd.prog ops Q (o :: rest) a w :=
  wpList_plain hgd fun _ hK => by
    unfold Oper.wp execOp
    simp only [ho, hx, Sem.run_bind, Sem.run_pure, Result.andThen_ok, hL.load]
    exact hK _ _ h
theorem wpList_store_mf {ops : Array Oper} {rest : List Oper} {o : Oper} {a : Act} {w : World} {Q : Exit → Act → World → Prop} (hgd : o.guard = none) (x y : Operand) (ho : o.op = .store 24 x y) (hd : o.dst = none)
    {b : Nat} {m m2 : Mf} {v : Value} {a2 : Option Addr} {n2 c2 : Nat} (hL : MfAt w b m v) (hx : a.eval x = .pointer (some ⟨b, 0, none⟩)) (hy : a.eval y = MfV m2 (.slice a2 n2 c2))
    (h : ∀ w2, MfAt w2 b m2 (.slice a2 n2 c2) → (∀ B a, Below B a w → B ≤ b → Below B a w2) → (∀ k, k ≠ b → w2.heap[k]? = w.heap[k]?) → w2.heap.size = w.heap.size → wpList Tryd.prog ops Q rest a w2) : wpList Tryd.prog ops Q (o :: rest) a w :=
  wpList_plain hgd fun _ hK => by
    obtain ⟨w2, h1, h2, h3, h4, h5⟩ := hL.store m2 a2 n2 c2
    unfold Oper.wp execOp
    simp only [ho, hx, hy, Sem.run_bind, Sem.run_pure, Result.andThen_ok, h1]
    exact hK _ _ (by rw [hd]; exact h w2 h2 h3 h4 h5)
theorem wpList_load_mfg {ops : Array Oper} {rest : List Oper} {o : Oper} {a : Act} {w : World} {Q : Exit → Act → World → Prop} (hgd : Region.wanted o (yielded ops a.tmps) = true) (x : Operand) (ho : o.op = .load 24 x)
    {b : Nat} {m : Mf} {v : Value} (hL : MfAt w b m v) (hx : a.eval x = .pointer (some ⟨b, 0, none⟩)) (h : wpList Tryd.prog ops Q rest (a.put o.dst (MfV m v)) w) : wpList Tryd.prog ops Q (o :: rest) a w :=
  wpList_wantM hgd fun _ hK => by
    unfold Oper.wp execOp
    simp only [ho, hx, Sem.run_bind, Sem.run_pure, Result.andThen_ok, hL.load]
    exact hK _ _ h
theorem results_mf2 {fn : Func} {p u : Tmp} (h : fn.results = #[.cell p 24, .tmp u]) (tmps : Array Value) (w : World) (b : Nat) {m : Mf} {v : Value} (x : Value) (hp : tmps.getD p undef = .pointer (some ⟨b, 0, none⟩)) (hx : tmps.getD u undef = x) (hl : MfAt w b m v) :
    (results fn tmps).run Tryd.prog w = .ok (.tuple #[MfV m v, x]) w := by
  rw [results_cell_tmp h, hp]
  simp only [asAddr, Sem.run_pure, Result.andThen_ok, hl.loadVar, hx]
theorem results_mf1 {fn : Func} {p : Tmp} (h : fn.results = #[.cell p 24]) (tmps : Array Value) (w : World) (k : Nat) {m : Mf} {v : Value} (hp : tmps.getD p undef = .pointer (some ⟨k, 0, none⟩)) (hl : MfAt w k m v) :
    (results fn tmps).run Tryd.prog w = .ok (MfV m v) w := by
  simp only [Array.getD_eq_getD_getElem?] at hp
  simp [results, h, hp, asAddr, hl.loadVar]
/-- all but the segments is within its bounds -/
def headB (m : Mf) : Bool := decide (1 ≤ m.gen ∧ m.gen ≤ 1099511627776 ∧ 2 ≤ m.next ∧ m.next ≤ 1000000 ∧ 0 ≤ m.snapSeq ∧ m.snapSeq ≤ 1099511627776 ∧ 0 ≤ m.floor ∧ m.floor ≤ m.snapSeq ∧ 0 ≤ m.snap ∧ m.snap ≤ m.next - 1 ∧ (m.snap = 0 ↔ m.snapSeq = 0))
/-- a segment's end: the active one has none -/
def endB (s : Sm) (act : Bool) : Bool := if act = true then decide (s.count = 0 ∧ s.foot = 0 ∧ s.first ≤ 1099511627777) else decide (1 ≤ s.count ∧ s.count ≤ 512 ∧ 1 ≤ s.foot ∧ s.foot ≤ 1099511627776)
/-- the segments follow on from one another -/
def segsB (next : Int) : Int → Int → List Sm → Bool
  | _, _, [] => true
  | num, first, s :: r => if num + 1 ≤ s.num ∧ s.num ≤ next - 1 ∧ s.first = first ∧ endB s r.isEmpty = true then segsB next s.num (s.first + s.count) r else false
def listB (m : Mf) : Bool := if 1 ≤ m.segs.length ∧ m.segs.length ≤ 256 then segsB m.next 0 (m.floor + 1) m.segs else false
def mvB (m : Mf) : Bool := headB m && listB m
end Go.Proofs.YtoneaannbmkeiaaDoor
