/- Own texts, joined: Evg, Ost, Wide. -/
import Derived.Test.YtfdaefhamoeaiaaK11
import Derived.Test.YtfdaefhamoeaiaaRows
import Derived.Test.YtfdaefhamoeaiaaK00
import Derived.Shelf.Spec.BitsCarry
import Derived.StillTactics
import Derived.Laws.Pointers
import Derived.Deep.RegionHeld
import Derived.Deep.RegionHeld3
namespace Go.Proofs.Ytfdaefhamoeaiaa
open Go.ChangeShapes Go.WideShapes Go.ChangeAt Go.RowKit
theorem wpList_want {ops : Array Oper} {rest : List Oper} {o : Oper} {a : Act} {w : World} {Q : Exit → Act → World → Prop} (hw : Region.wanted o (yielded ops a.tmps) = true)
    (h : ∀ K : Act → World → Prop, (∀ a w, wpList Try.prog ops Q rest a w → K a w) → o.wp Try.prog a w K Q) : wpList Try.prog ops Q (o :: rest) a w :=
  wpList_step fun K hK => by rw [if_pos hw]; exact h K hK
theorem guard_loadg {ops : Array Oper} {rest : List Oper} {a : Act} {w : World} {Q : Exit → Act → World → Prop} {dst : Option Tmp} {ty : TypeId} {pos : String} {after : Array Edge} {x : Operand} {g : Nat × Bool} (t : TypeId)
    (h : wpList Try.prog ops Q (⟨dst, .load t x, ty, pos, after, some g⟩ :: rest) a w) : wpList Try.prog ops Q (⟨dst, .load t x, ty, pos, after, some g⟩ :: rest) a w := h
theorem wpList_load_evg {ops : Array Oper} {rest : List Oper} {o : Oper} {a : Act} {w : World} {Q : Exit → Act → World → Prop} (hw : Region.wanted o (yielded ops a.tmps) = true) (x : Operand) (ho : o.op = .load 89 x)
    {b : Nat} {e : Ev} (hL : EvAt w b e) (hx : a.eval x = .pointer (some ⟨b, 0, none⟩)) (h : wpList Try.prog ops Q rest (a.put o.dst (.agg (evA e))) w) : wpList Try.prog ops Q (o :: rest) a w :=
  wpList_want hw fun _ hK => by
    unfold Oper.wp execOp
    simp only [ho, hx, Sem.run_bind, Sem.run_pure, Result.andThen_ok, hL.load]
    exact hK _ _ h
set_option maxRecDepth 20000 in
theorem ev_self (e : Ev) (w : World) : (Op.equalIn 10000 89 (.agg (evA e)) (.agg (evA e))).run Try.prog w = .ok true w := by
  unfold evA
  simp [go_sem, Try.underlying89]
theorem ev_eql (e : Ev) (w : World) : (binOp .eql 89 (.agg (evA e)) (.agg (evA e))).run Try.prog w = .ok (.bool true) w := by
  rw [run_eql_struct, ev_self]; rfl
theorem ev_neq (e : Ev) (w : World) : (binOp .neq 89 (.agg (evA e)) (.agg (evA e))).run Try.prog w = .ok (.bool false) w := by
  rw [run_neq_struct, ev_self]; rfl
theorem exec_load_ev {o : Oper} {a : Act} {w : World} (x : Operand) (ho : o.op = .load 89 x) {b : Nat} {e : Ev} (hx : a.eval x = .pointer (some ⟨b, 0, none⟩)) (hL : EvAt w b e) : (execOp a.eval o).run Try.prog w = .ok (.value (.agg (evA e))) w := by
  unfold execOp
  simp only [ho, hx, Sem.run_bind, Sem.run_pure, Result.andThen_ok, hL.load]
/-- an event in block b; nothing older than w has turned -/
def EvC (w : World) (b : Nat) (e : Ev) (x : World) : Prop := EvAt x b e ∧ Below w.heap.size w x
theorem EvC.keep {w x y : World} {b : Nat} {e : Ev} (h : EvC w b e x) (hb : Below x.heap.size x y) : EvC w b e y := ⟨h.1.after hb, h.2.trans (hb.mono h.2.size)⟩
end Go.Proofs.Ytfdaefhamoeaiaa
namespace Go.Proofs.Ytfdaefhamoeaiaa
open Go.ChangeShapes Go.WideShapes Go.ChangeAt Go.RowKit
set_option linter.unusedVariables false
/-- a line of an order -/
structure Ln where
  item : Int
  price : Int
  qty : Int
  shipped : Int
/-- the cells of a list of lines -/
def lfl : List Ln → List Value
  | [] => []
  | p :: r => .int .i64 p.item :: .int .i64 p.price :: .int .i64 p.qty :: .int .i64 p.shipped :: lfl r
theorem lfl_append : ∀ (L M : List Ln), lfl (L ++ M) = lfl L ++ lfl M
  | [], M => rfl
  | p :: r, M => by simp only [List.cons_append, lfl, lfl_append r M]
theorem lfl_length : ∀ (L : List Ln), (lfl L).length = L.length * 4
  | [] => rfl
  | p :: r => by simp only [lfl, List.length_cons, lfl_length r]; omega
theorem lfl_one : ∀ (L : List Ln), ∀ u ∈ lfl L, u.oneCell' = true
  | [], u, h => by cases h
  | p :: r, u, h => by
    simp only [lfl, List.mem_cons] at h
    rcases h with rfl | rfl | rfl | rfl | h
    · rfl
    · rfl
    · rfl
    · rfl
    · exact lfl_one r u h
theorem lfl_get : ∀ (L : List Ln) (k : Nat) (p : Ln), L[k]? = some p → (lfl L)[k * 4]? = some (.int .i64 p.item) ∧ (lfl L)[k * 4 + 1]? = some (.int .i64 p.price) ∧ (lfl L)[k * 4 + 2]? = some (.int .i64 p.qty) ∧ (lfl L)[k * 4 + 3]? = some (.int .i64 p.shipped)
  | q :: r, 0, p, h => by simp at h; subst h; exact ⟨rfl, rfl, rfl, rfl⟩
  | q :: r, k + 1, p, h => by
    have := lfl_get r k p (by simpa using h)
    rw [show (k + 1) * 4 = k * 4 + 4 from by omega]
    simpa [lfl] using this
  | [], k, p, h => by simp at h
theorem ln_lt {α : Type} {L : List α} {k : Nat} {p : α} (h : L[k]? = some p) : k < L.length := by
  by_cases hh : k < L.length
  · exact hh
  · rw [List.getElem?_eq_none (by omega)] at h; cases h
theorem ln_get {α : Type} {L : List α} {k : Nat} (h : k < L.length) : ∃ p, L[k]? = some p := ⟨_, List.getElem?_eq_getElem h⟩
theorem ln_take {α : Type} (L : List α) (k : Nat) (p : α) (h : L[k]? = some p) : L.take (k + 1) = L.take k ++ [p] := by
  have hk := ln_lt h
  rw [List.take_succ_eq_append_getElem hk]
  rw [List.getElem?_eq_getElem hk] at h
  cases h; rfl
theorem ln_drop {α : Type} (L : List α) (k : Nat) (p : α) (h : L[k]? = some p) : L.drop k = p :: L.drop (k + 1) := by
  have hk := ln_lt h
  rw [List.drop_eq_getElem_cons hk]
  rw [List.getElem?_eq_getElem hk] at h
  cases h; rfl
/-- the lines L lie from address a on -/
def Lns (w : World) (a : Option Addr) (L : List Ln) : Prop :=
  L = [] ∨ ∃ b off, a = some ⟨b, off, none⟩ ∧ b < w.heap.size ∧ ∀ j, j < L.length * 4 → w.cell? ⟨b, off + j, none⟩ = (lfl L)[j]?
theorem Lns.keep {w w' : World} {a : Option Addr} {L : List Ln} (h : Lns w a L) (hb : Below w.heap.size w w') : Lns w' a L := by
  rcases h with h1 | ⟨b, off, h1, h2, h3⟩
  · exact .inl h1
  · exact .inr ⟨b, off, h1, Nat.lt_of_lt_of_le h2 hb.size, fun j hj => (hb.cell (p := ⟨b, off + j, none⟩) h2).trans (h3 j hj)⟩
theorem Lns.cells {w : World} {a : Option Addr} {L : List Ln} (h : Lns w a L) (k : Nat) (p : Ln) (hp : L[k]? = some p) : ∃ b off, a = some ⟨b, off, none⟩ ∧ b < w.heap.size ∧ w.cell? ⟨b, off + k * 4, none⟩ = some (.int .i64 p.item) ∧ w.cell? ⟨b, off + k * 4 + 1, none⟩ = some (.int .i64 p.price) ∧ w.cell? ⟨b, off + k * 4 + 2, none⟩ = some (.int .i64 p.qty) ∧ w.cell? ⟨b, off + k * 4 + 3, none⟩ = some (.int .i64 p.shipped) := by
  have hk := ln_lt hp
  obtain ⟨f0, f1, f2, f3⟩ := lfl_get L k p hp
  rcases h with rfl | ⟨b, off, rfl, hlt, h⟩
  · simp at hp
  · exact ⟨b, off, rfl, hlt, (h (k * 4) (by omega)).trans f0, (h (k * 4 + 1) (by omega)).trans f1, (h (k * 4 + 2) (by omega)).trans f2, (h (k * 4 + 3) (by omega)).trans f3⟩
/-- the value v is a row of the call's own that holds the lines L -/
def OwnL (w : World) (base : Nat) (v : Value) (L : List Ln) : Prop := w.ownsRow base 46 4 v L.length (lfl L)
theorem OwnL.shape {w : World} {base : Nat} {v : Value} {L : List Ln} (h : OwnL w base v L) :
    ∃ a cap, v = .slice a L.length cap ∧ L.length ≤ cap ∧ cap ≤ maxLen ∧ Lns w a L ∧ ((a = none ∧ L = [] ∧ cap = 0) ∨ ∃ g, a = some ⟨g, 0, none⟩ ∧ base ≤ g ∧ g < w.heap.size) := by
  have h' := h
  obtain ⟨h1, h2⟩ := h
  rcases h2 with ⟨rfl, hn⟩ | ⟨g, cap, cur, rfl, hb, hg, hnc, hcm, hcs, htake⟩
  · have : L = [] := List.length_eq_zero_iff.1 hn
    subst this
    exact ⟨none, 0, rfl, Nat.le_refl _, by simp, .inl rfl, .inl ⟨rfl, rfl, rfl⟩⟩
  · have hlt := lt_of_heap hg
    refine ⟨some ⟨g, 0, none⟩, cap, rfl, hnc, hcm, .inr ⟨g, 0, rfl, hlt, fun j hj => ?_⟩, .inr ⟨g, rfl, hb, hlt⟩⟩
    rw [Nat.zero_add]
    exact World.ownsRow.cellAt h' j hj
theorem OwnL.keep {w w' : World} {base : Nat} {v : Value} {L : List Ln} (h : OwnL w base v L) (hb : Below w.heap.size w w') : OwnL w' base v L := own_below h hb
theorem OwnL.nil (w : World) (base : Nat) : OwnL w base (.slice none 0 0) [] := World.ownsRow_nil w base _ 4
theorem OwnL.lit (w : World) : OwnL (w.alloc (.cells #[] 46)) w.heap.size (.slice (some ⟨w.heap.size, 0, none⟩) 0 0) [] := World.ownsRow_lit w #[] 0 (Nat.le_refl _) (by simp) rfl
theorem OwnL.snoc {w : World} {base : Nat} {v : Value} {L : List Ln} {p : Ln} {n : Nat} (hn : L.length = n) (h : w.ownsRow base 46 4 v (n + 1) (lfl L ++ [.int .i64 p.item, .int .i64 p.price, .int .i64 p.qty, .int .i64 p.shipped])) : OwnL w base v (L ++ [p]) := by
  unfold OwnL
  rw [List.length_append, lfl_append, hn]
  exact h
theorem Try.infoLn : (Try.prog.info? 46).map (fun i => (i.zero, i.size, i.bytes)) = some (some (.agg #[.int .i64 0, .int .i64 0, .int .i64 0, .int .i64 0]), 4, 32) := by kernel_rfl
/-- a state -/
structure St where
  order : Int
  status : Int
  prior : Int
  cur : Int
  tax : Int
  lines : List Ln
  paid : Int
  refunded : Int
  events : Int
  refused : Int
  stamp : Int
  who : ByteArray
/-- its cells, the lines being the slice v -/
def stA (s : St) (v : Value) : Array Value := #[.int .i64 s.order, .int .i64 s.status, .int .i64 s.prior, .int .i64 s.cur, .int .i64 s.tax, v, .int .i64 s.paid, .int .i64 s.refunded, .int .i64 s.events, .int .i64 s.refused, .int .i64 s.stamp, .string s.who]
def zeroS : St := ⟨0, 0, 0, 0, 0, [], 0, 0, 0, 0, 0, ⟨#[]⟩⟩
theorem stA_one (s : St) (a : Option Addr) (n c : Nat) : (stA s (.slice a n c)).all (·.oneCell') = true := by simp [stA, Value.oneCell']
def StAt (w : World) (b : Nat) (s : St) (v : Value) : Prop := w.heap[b]? = some (.cells (stA s v) 25)
theorem StAt.lt {w : World} {b : Nat} {s : St} {v : Value} (h : StAt w b s v) : b < w.heap.size := by
  by_cases hh : b < w.heap.size
  · exact hh
  · unfold StAt at h; rw [Array.getElem?_eq_none (by omega)] at h; cases h
theorem StAt.after {w w' : World} {b : Nat} {s : St} {v : Value} (h : StAt w b s v) (hb : Below w.heap.size w w') : StAt w' b s v := (hb.block b h.lt).trans h
theorem StAt.keep {B : Nat} {w w' : World} {b : Nat} {s : St} {v : Value} (h : StAt w b s v) (hb : Below B w w') (hlt : b < B) : StAt w' b s v := (hb.block b hlt).trans h
theorem StAt.cell {w : World} {b : Nat} {s : St} {v : Value} (h : StAt w b s v) (i : Nat) (x : Value) (hx : (stA s v)[i]? = some x) : w.cell? ⟨b, i, none⟩ = some x := by
  rw [cell_of_row w b i (stA s v) 25 (0, 0) h]; exact hx
theorem StAt.new (w : World) (s : St) (v : Value) : StAt (w.alloc (.cells (stA s v) 25)) w.heap.size s v := by
  unfold StAt
  exact heap_alloc_new w _
theorem Try.infoSt : (Try.prog.info? 25).map (·.size) = some 12 := by kernel_rfl
theorem StAt.loadVar {w : World} {b : Nat} {s : St} {v : Value} (h : StAt w b s v) : (Go.loadVar 25 ⟨b, 0, none⟩).run Try.prog w = .ok (.agg (stA s v)) w :=
  run_loadVar_row _ _ _ _ _ _ _ h Try.underlying25 rfl Try.infoSt
theorem StAt.load {w : World} {b : Nat} {s : St} {v : Value} (h : StAt w b s v) : (Instr.loadAt 25 (.pointer (some ⟨b, 0, none⟩))).run Try.prog w = .ok (.agg (stA s v)) w := by
  simp only [Instr.loadAt, Instr.sureAddr, Sem.run_bind, Sem.run_pure, Result.andThen_ok, h.loadVar]
theorem StAt.store {w : World} {b : Nat} {s : St} {v : Value} (h : StAt w b s v) (s2 : St) (a : Option Addr) (n c : Nat) : ∃ w2, (Instr.storeAt 25 (.pointer (some ⟨b, 0, none⟩)) (.agg (stA s2 (.slice a n c)))).run Try.prog w = .ok () w2 ∧ StAt w2 b s2 (.slice a n c) ∧ (∀ B a, Below B a w → B ≤ b → Below B a w2) ∧ (∀ k, k ≠ b → w2.heap[k]? = w.heap[k]?) ∧ w2.heap.size = w.heap.size := by
  refine ⟨w.setRow b (stA s2 (.slice a n c)), ?_, ?_, fun B a hb hB => below_setRow hb b _ hB, fun k hk => ?_, ?_⟩
  · simp only [Instr.storeAt, Instr.sureAddr, Sem.run_bind, Sem.run_pure, Result.andThen_ok, run_storeVar_row w b 25 25 (stA s v) (stA s2 (.slice a n c)) h Try.infoSt rfl (stA_one s2 a n c)]
  · unfold StAt at h ⊢
    simp [World.setRow, Array.getElem?_modify, h]
  · simp only [World.setRow, Array.getElem?_modify]
    rw [if_neg (Ne.symm hk)]
  · simp [World.setRow]
theorem wpList_load_st {ops : Array Oper} {rest : List Oper} {o : Oper} {a : Act} {w : World} {Q : Exit → Act → World → Prop} (hgd : o.guard = none) (x : Operand) (ho : o.op = .load 25 x)
    {b : Nat} {s : St} {v : Value} (hL : StAt w b s v) (hx : a.eval x = .pointer (some ⟨b, 0, none⟩)) (h : wpList Try.prog ops Q rest (a.put o.dst (.agg (stA s v))) w) : wpList Try.prog ops Q (o :: rest) a w :=
  wpList_plain hgd fun _ hK => by
    unfold Oper.wp execOp
    simp only [ho, hx, Sem.run_bind, Sem.run_pure, Result.andThen_ok, hL.load]
    exact hK _ _ h
theorem wpList_store_st {ops : Array Oper} {rest : List Oper} {o : Oper} {a : Act} {w : World} {Q : Exit → Act → World → Prop} (hgd : o.guard = none) (x y : Operand) (ho : o.op = .store 25 x y)
    {b : Nat} {s s2 : St} {v : Value} {a2 : Option Addr} {n2 c2 : Nat} (hL : StAt w b s v) (hx : a.eval x = .pointer (some ⟨b, 0, none⟩)) (hy : a.eval y = .agg (stA s2 (.slice a2 n2 c2)))
    (h : ∀ w2, StAt w2 b s2 (.slice a2 n2 c2) → (∀ B a, Below B a w → B ≤ b → Below B a w2) → (∀ k, k ≠ b → w2.heap[k]? = w.heap[k]?) → w2.heap.size = w.heap.size → wpList Try.prog ops Q rest (a.put o.dst undef) w2) : wpList Try.prog ops Q (o :: rest) a w :=
  wpList_plain hgd fun _ hK => by
    obtain ⟨w2, h1, h2, h3, h4, h5⟩ := hL.store s2 a2 n2 c2
    unfold Oper.wp execOp
    simp only [ho, hx, hy, Sem.run_bind, Sem.run_pure, Result.andThen_ok, h1]
    exact hK _ _ (h w2 h2 h3 h4 h5)
theorem wpList_load_stg {ops : Array Oper} {rest : List Oper} {o : Oper} {a : Act} {w : World} {Q : Exit → Act → World → Prop} (hgd : Region.wanted o (yielded ops a.tmps) = true) (x : Operand) (ho : o.op = .load 25 x)
    {b : Nat} {s : St} {v : Value} (hL : StAt w b s v) (hx : a.eval x = .pointer (some ⟨b, 0, none⟩)) (h : wpList Try.prog ops Q rest (a.put o.dst (.agg (stA s v))) w) : wpList Try.prog ops Q (o :: rest) a w :=
  wpList_want hgd fun _ hK => by
    unfold Oper.wp execOp
    simp only [ho, hx, Sem.run_bind, Sem.run_pure, Result.andThen_ok, hL.load]
    exact hK _ _ h
theorem exec_load_st {o : Oper} {a : Act} {w : World} (x : Operand) (ho : o.op = .load 25 x) {b : Nat} {s : St} {v : Value} (hx : a.eval x = .pointer (some ⟨b, 0, none⟩)) (hL : StAt w b s v) : (execOp a.eval o).run Try.prog w = .ok (.value (.agg (stA s v))) w := by
  unfold execOp
  simp only [ho, hx, Sem.run_bind, Sem.run_pure, Result.andThen_ok, hL.load]
/-- a state in block b, its lines at a; nothing older than w has turned -/
def StC (w : World) (b : Nat) (s : St) (a : Option Addr) (n cap : Nat) (x : World) : Prop := StAt x b s (.slice a n cap) ∧ Lns x a s.lines ∧ Below w.heap.size w x
theorem StC.keep {w x y : World} {b : Nat} {s : St} {a : Option Addr} {n cap : Nat} (h : StC w b s a n cap x) (hb : Below x.heap.size x y) : StC w b s a n cap y := ⟨h.1.after hb, h.2.1.keep hb, h.2.2.trans (hb.mono h.2.2.size)⟩
theorem StC.new (w : World) (s : St) (a : Option Addr) (n cap : Nat) (h : Lns w a s.lines) : StC w w.heap.size s a n cap (w.alloc (.cells (stA s (.slice a n cap)) 25)) := ⟨StAt.new w s _, h.keep ((Below.refl _ _).alloc (Nat.le_refl _) _), (Below.refl _ _).alloc (Nat.le_refl _) _⟩
theorem StC.drew {w x : World} {b : Nat} {s : St} {a : Option Addr} {n cap : Nat} (h : StC w b s a n cap x) : StC w b s a n cap x.drew := h.keep (Below.refl _ _).drew
theorem StC.alloc {w x : World} {b : Nat} {s : St} {a : Option Addr} {n cap : Nat} (h : StC w b s a n cap x) (o : Obj) : StC w b s a n cap (x.alloc o) := h.keep ((Below.refl _ _).alloc (Nat.le_refl _) o)
end Go.Proofs.Ytfdaefhamoeaiaa
namespace Go.Proofs.Ytfdaefhamoeaiaa
open Go.ChangeShapes Go.WideShapes Go.ChangeAt Go.RowKit
theorem bal {a w : World} (h : Below a.heap.size a w) (o : Obj) : Below a.heap.size a (w.alloc o) := h.alloc h.size o
theorem bnx {a b c : World} (h : Below a.heap.size a b) (k : Below b.heap.size b c) : Below a.heap.size a c := h.trans (k.mono h.size)
theorem bel2 (w : World) (o p : Obj) : Below w.heap.size w ((w.alloc o).alloc p) := bal (bal (Below.refl _ _) _) _
theorem bel5 (w : World) (o p q r s : Obj) : Below w.heap.size w (((((w.alloc o).alloc p).alloc q).alloc r).alloc s) := bal (bal (bal (bel2 _ _ _) _) _) _
/-- the borrow -/
def bor (x y : Int) : Int := if x < y then 1 else 0
theorem sub64_0 (x y : Int) (hx : 0 ≤ x) (hy : 0 ≤ y) (hy' : y < 18446744073709551616) (w : World) : (callFunc 76 #[.int .u64 x, .int .u64 y, .int .u64 0]).run Try.prog w =
    .ok (.value (.tuple #[.int .u64 ((x - y) % 18446744073709551616), .int .u64 (bor x y)])) w := by
  obtain ⟨x, rfl⟩ := Int.eq_ofNat_of_zero_le hx
  obtain ⟨y, rfl⟩ := Int.eq_ofNat_of_zero_le hy
  have e1 : (((x + 18446744073709551616 - y - 0) % 18446744073709551616 : Nat) : Int) = ((x : Int) - y) % 18446744073709551616 := by omega
  have e2 : ((if x < y + 0 then 1 else 0 : Nat) : Int) = bor (x : Int) y := by unfold bor; split <;> split <;> omega
  rw [← e1, ← e2]
  rw [run_callFunc_extern Try.func76 (by kernel_rfl) (by kernel_rfl) (by kernel_rfl) (e := sub64Entry) (by kernel_rfl)]
  rw [show ((0 : Int)) = ((0 : Nat) : Int) from rfl, run_sub64 x y 0 (by omega)]
  rfl
/-- the wide number V -/
def W128 (V : Int) : Value := .agg #[.int .i64 (V / 18446744073709551616), .int .u64 (V % 18446744073709551616)]
theorem ret_agg {a b c d : Int} (h1 : a = c) (h2 : b = d) : Ending.returned (.agg #[.int .i64 a, .int .u64 b]) = .returned (.agg #[.int .i64 c, .int .u64 d]) := by rw [h1, h2]
theorem widen_any (a : Int) (w : World) (h0 : -9223372036854775808 ≤ a) (h1 : a ≤ 9223372036854775807) :
    Calls Try.prog 71 #[.int .i64 a] w fun e w' => e = .returned (W128 a) ∧ ∃ c, w' = w.alloc (.cells c 96) := by
  have hz : Hid (a / 9223372036854775808 = a / 18446744073709551616) := by show _ = _; omega
  have hy : Hid (IntKind.u64.wrap a = a % 18446744073709551616) := IntKind.wrap_u64 a
  go_enter Try.func71, Try.ntmps71
  go_wp2
  simp [bodyPost, results, Try.results71, go_sem]
  refine ⟨?_, _, rfl⟩
  unfold W128
  rw [hz.out, hy.out]
theorem minus_any (x y : Int) (w : World) (h0 : -170141183460469231731687303715884105728 ≤ x - y) (h1 : x - y ≤ 170141183460469231731687303715884105727) :
    Calls Try.prog 70 #[W128 x, W128 y] w fun e w' => e = .returned (W128 (x - y)) ∧ ∃ c1 c2 c3, w' = ((w.alloc (.cells c1 96)).alloc (.cells c2 96)).alloc (.cells c3 96) := by
  have k1 : 0 ≤ x % 18446744073709551616 := by omega
  have k2 : 0 ≤ y % 18446744073709551616 := by omega
  have k3 : y % 18446744073709551616 < 18446744073709551616 := by omega
  have HB : Hid (_ ∧ _) := (⟨h0, h1⟩ : _ ∧ _)
  clear h0 h1
  unfold W128
  go_enter Try.func70, Try.ntmps70
  go_wp2_with (simp only [sub64_0 _ _ k1 k2 k3])
  simp [bodyPost, results, Try.results70, go_sem]
  refine ⟨?_, _, _, _, rfl⟩
  have := HB.out
  simp only [wrap64]
  unfold bor
  split <;> omega
theorem nsize_any (a : Int) (u : Nat) (w : World) (h0 : -9223372036854775808 ≤ a) (h1 : a ≤ 9223372036854775807) (hu : u = a.natAbs) :
    Calls Try.prog 53 #[.int .i64 a] w fun e w' => e = .returned (.int .u64 (u : Int)) ∧ w = w' := by
  have HU : Hid (u = a.natAbs) := hu
  clear hu
  by_cases h : a < 0
  · go_enter Try.func53, Try.ntmps53
    go_wp2
    go_ret
    refine ⟨ret_int ?_, rfl⟩
    have := HU.out
    rw [IntKind.wrap_u64, IntKind.wrap_u64]
    omega
  · go_enter Try.func53, Try.ntmps53
    go_wp2
    go_ret
    refine ⟨ret_int ?_, rfl⟩
    have := HU.out
    omega
/-- V, if 64 bits with a sign hold it; else nothing, and false -/
abbrev inI (V : Int) : Prop := -9223372036854775808 ≤ V ∧ V ≤ 9223372036854775807
def fitV (V : Int) : Int := if inI V then V else 0
def fitB (V : Int) : Bool := decide (inI V)
def fitT (V : Int) : Value := .tuple #[.int .i64 (fitV V), .bool (fitB V)]
theorem narrow_any (V : Int) (w : World) (h0 : -170141183460469231731687303715884105728 ≤ V) (h1 : V ≤ 170141183460469231731687303715884105727) :
    Calls Try.prog 56 #[W128 V] w fun e w' => e = .returned (fitT V) ∧ Below w.heap.size w w' := by
  by_cases hf : inI V
  · have hT : Hid (fitT V = .tuple #[.int .i64 V, .bool true]) := by show _ = _; unfold fitT fitV fitB; rw [if_pos hf, decide_eq_true hf]
    have e1 : wrap64 (V % 18446744073709551616) = V := by unfold inI at hf; unfold wrap64; omega
    have HF : Hid (inI V) := hf
    clear hf h0 h1
    unfold W128
    go_enter Try.func56, Try.ntmps56
    go_wp2
    go_region_held3 (fun w' => w'.cell? ⟨w.heap.size, 0, none⟩ = some (.int .i64 (V / 18446744073709551616)) ∧ w'.cell? ⟨w.heap.size, 1, none⟩ = some (.int .u64 (V % 18446744073709551616))) (simp [go_sem, World.cell?_alloc_past])
      (first | (go_at_call 71; refine (widen_any V _ HF.out.1 HF.out.2).mono ?_; unfold W128; rintro e w2 ⟨rfl, c, rfl⟩))
    go_wp2
    go_ret2
    refine ⟨by rw [hT.out]; rfl, ?_⟩
    exact (((Below.refl _ _).alloc (Nat.le_refl _) _).drew.alloc (by simp) _)
  · have hT : Hid (fitT V = .tuple #[.int .i64 0, .bool false]) := by show _ = _; unfold fitT fitV fitB; rw [if_neg hf, decide_eq_false hf]
    obtain ⟨L, e1⟩ : ∃ L, wrap64 (V % 18446744073709551616) = L := ⟨_, rfl⟩
    have e2 : ¬ V / 18446744073709551616 = L / 18446744073709551616 := by unfold inI at hf; unfold wrap64 at e1; omega
    have HF : Hid (inI L) := by show inI L; unfold inI; unfold wrap64 at e1; omega
    clear hf h0 h1
    unfold W128
    go_enter Try.func56, Try.ntmps56
    go_wp2
    go_region_held3 (fun w' => w'.cell? ⟨w.heap.size, 0, none⟩ = some (.int .i64 (V / 18446744073709551616)) ∧ w'.cell? ⟨w.heap.size, 1, none⟩ = some (.int .u64 (V % 18446744073709551616))) (simp [go_sem, World.cell?_alloc_past])
      (first | (go_at_call 71; refine (widen_any L _ HF.out.1 HF.out.2).mono ?_; unfold W128; rintro e w2 ⟨rfl, c, rfl⟩))
    go_wp2
    go_ret2
    refine ⟨by rw [hT.out]; rfl, ?_⟩
    exact (((Below.refl _ _).alloc (Nat.le_refl _) _).drew.alloc (by simp) _)
theorem signed_any (hi lo : Nat) (neg : Bool) (V : Int) (w : World) (h : hi < 9223372036854775808) (hl : lo < 18446744073709551616) (hV : V = if neg then -((hi : Int) * 18446744073709551616 + lo) else (hi : Int) * 18446744073709551616 + lo) :
    Calls Try.prog 55 #[.int .u64 (hi : Int), .int .u64 (lo : Int), .bool neg] w fun e w' => e = .returned (W128 V) ∧ Below w.heap.size w w' := by
  have h1 : wrap64 (hi : Int) = (hi : Int) := by unfold wrap64; omega
  have HW : Hid (W128 ((hi : Int) * 18446744073709551616 + lo) = .agg #[.int .i64 (hi : Int), .int .u64 (lo : Int)]) := by
    show _ = _
    unfold W128
    rw [show ((hi : Int) * 18446744073709551616 + lo) / 18446744073709551616 = hi from by omega, show ((hi : Int) * 18446744073709551616 + lo) % 18446744073709551616 = lo from by omega]
  cases neg with
  | true =>
    have HV : Hid (V = 0 - ((hi : Int) * 18446744073709551616 + lo)) := by show _ = _; rw [hV, if_pos rfl]; omega
    have HB : Hid (hi < 9223372036854775808 ∧ lo < 18446744073709551616) := ⟨h, hl⟩
    clear hV h hl
    go_enter Try.func55, Try.ntmps55
    go_wp2_with (go_at_call 70; rw [show (Value.agg #[.int .i64 (hi : Int), .int .u64 (lo : Int)]) = W128 ((hi : Int) * 18446744073709551616 + lo) from HW.out.symm, show (Value.agg #[.int .i64 0, .int .u64 0]) = W128 0 from rfl]; refine (minus_any 0 _ _ (by have := HB.out; omega) (by have := HB.out; omega)).mono ?_; rw [← HV.out]; unfold W128; rintro e w2 ⟨rfl, c1, c2, c3, rfl⟩)
    simp [bodyPost, results, Try.results55, go_sem]
    exact ⟨rfl, bel5 _ _ _ _ _ _⟩
  | false =>
    have HV : Hid (V = (hi : Int) * 18446744073709551616 + lo) := by show _ = _; rw [hV]; rfl
    clear hV h hl
    go_enter Try.func55, Try.ntmps55
    go_wp2
    simp [bodyPost, results, Try.results55, go_sem]
    exact ⟨by rw [HV.out]; exact HW.out.symm, bel2 _ _ _⟩
end Go.Proofs.Ytfdaefhamoeaiaa
