/- What the reference's long numbers are. -/
import Derived.Test.YtblfmfanfpohbaaGreatNum
import Derived.Test.YtblfmfanfpohbaaGreatGld
import Derived.Deep.MidRow
import Derived.BigQuiet
import Derived.Deep.QuietTactic
namespace Go.Proofs.YtblfmfanfpohbaaGreat
open Go.ChangeShapes Go.WideShapes Go.ChangeAt Go.RowKit
/-- the cells of a long number: its sign, and its digits, the lowest first -/
def LA (b : Bool) (d : Nat → Nat) : Array Value := #[.bool b, .int .u64 (d 0 : Int), .int .u64 (d 1 : Int), .int .u64 (d 2 : Int), .int .u64 (d 3 : Int), .int .u64 (d 4 : Int), .int .u64 (d 5 : Int), .int .u64 (d 6 : Int), .int .u64 (d 7 : Int), .int .u64 (d 8 : Int), .int .u64 (d 9 : Int), .int .u64 (d 10 : Int), .int .u64 (d 11 : Int), .int .u64 (d 12 : Int), .int .u64 (d 13 : Int), .int .u64 (d 14 : Int), .int .u64 (d 15 : Int)]
theorem lt16 {k : Nat} (h : k < 16) : k = 0 ∨ k = 1 ∨ k = 2 ∨ k = 3 ∨ k = 4 ∨ k = 5 ∨ k = 6 ∨ k = 7 ∨ k = 8 ∨ k = 9 ∨ k = 10 ∨ k = 11 ∨ k = 12 ∨ k = 13 ∨ k = 14 ∨ k = 15 := by omega
theorem LA_size (b : Bool) (d : Nat → Nat) : (LA b d).size = 17 := rfl
theorem LA_get (b : Bool) (d : Nat → Nat) (k : Nat) (h : k < 16) : (LA b d)[1 + k]? = some (.int .u64 (d k : Int)) := by
  rcases lt16 h with rfl | rfl | rfl | rfl | rfl | rfl | rfl | rfl | rfl | rfl | rfl | rfl | rfl | rfl | rfl | rfl <;> rfl
def upd (d : Nat → Nat) (k v : Nat) : Nat → Nat := fun i => if i = k then v else d i
theorem LA_set (b : Bool) (d : Nat → Nat) (k v : Nat) (h : k < 16) : (LA b d).setIfInBounds (1 + k) (.int .u64 (v : Int)) = LA b (upd d k v) := by
  rcases lt16 h with rfl | rfl | rfl | rfl | rfl | rfl | rfl | rfl | rfl | rfl | rfl | rfl | rfl | rfl | rfl | rfl <;> rfl
theorem LA_one (b : Bool) (d : Nat → Nat) : (LA b d).all (·.oneCell') = true := by simp [LA, Value.oneCell']
/-- the number of the n lowest digits -/
def V (d : Nat → Nat) : Nat → Nat
  | 0 => 0
  | n + 1 => V d n + d n * 65536 ^ n
def Dig (d : Nat → Nat) : Prop := ∀ i, d i < 65536
theorem V_congr (d e : Nat → Nat) (n : Nat) (h : ∀ i, i < n → d i = e i) : V d n = V e n := by
  induction n with
  | zero => rfl
  | succ n ih => rw [V, V, ih fun i hi => h i (by omega), h n (by omega)]
theorem V_lt (d : Nat → Nat) (n : Nat) (h : Dig d) : V d n < 65536 ^ n := by
  induction n with
  | zero => simp [V]
  | succ n ih =>
    rw [V, Nat.pow_succ]
    have h1 : d n * 65536 ^ n ≤ 65535 * 65536 ^ n := Nat.mul_le_mul_right _ (by have := h n; omega)
    omega
theorem V_upd (d : Nat → Nat) (k v : Nat) : V (upd d k v) k = V d k := V_congr _ _ _ fun i hi => by unfold upd; rw [if_neg (by omega)]
theorem V_upd_succ (d : Nat → Nat) (k v : Nat) : V (upd d k v) (k + 1) = V d k + v * 65536 ^ k := by rw [V, V_upd]; unfold upd; rw [if_pos rfl]
/-- the long number lies in block b of w -/
def LongAt (w : World) (b : Nat) (s : Bool) (d : Nat → Nat) : Prop := w.heap[b]? = some (.cells (LA s d) 61)
theorem LongAt.lt {w : World} {b : Nat} {s : Bool} {d : Nat → Nat} (h : LongAt w b s d) : b < w.heap.size := by
  by_cases hh : b < w.heap.size
  · exact hh
  · unfold LongAt at h; rw [Array.getElem?_eq_none (by omega)] at h; cases h
theorem LongAt.digit {w : World} {b : Nat} {s : Bool} {d : Nat → Nat} (h : LongAt w b s d) (k : Nat) (hk : k < 16) : w.cell? ⟨b, 1 + k, none⟩ = some (.int .u64 (d k : Int)) := by
  rw [cell_of_row w b (1 + k) _ _ _ h, LA_get s d k hk]
theorem LongAt.sign {w : World} {b : Nat} {s : Bool} {d : Nat → Nat} (h : LongAt w b s d) : w.cell? ⟨b, 0, none⟩ = some (.bool s) := by
  rw [cell_of_row w b 0 _ _ _ h]; rfl
theorem LongAt.keep {B : Nat} {w w' : World} {b : Nat} {s : Bool} {d : Nat → Nat} (h : LongAt w b s d) (hb : Below B w w') (hlt : b < B) : LongAt w' b s d := (hb.block b hlt).trans h
theorem LongAt.free {w : World} {b : Nat} {s : Bool} {d : Nat → Nat} (h : LongAt w b s d) (k : Nat) : w.frozen? ⟨b, k, none⟩ = false := frozen_of_row w b k _ _ h
theorem LongAt.there {w : World} {b : Nat} {s : Bool} {d : Nat → Nat} (h : LongAt w b s d) : w.there b 0 17 := fun j hj => by
  refine ⟨?_, h.free _⟩
  rw [Nat.zero_add, cell_of_row w b j _ _ _ h, Array.getElem?_eq_getElem (by rw [LA_size]; exact hj)]
  rfl
theorem lay4 (w : World) (b c : Bool) (x y : Nat → Nat) : Hid (LongAt ((((w.alloc (.cells (LA b x) 61)).alloc (.cells (LA c y) 61)).alloc (.cells (LA false fun _ => 0) 61)).alloc (.cells (LA b fun _ => 0) 61)) w.heap.size b x ∧ LongAt ((((w.alloc (.cells (LA b x) 61)).alloc (.cells (LA c y) 61)).alloc (.cells (LA false fun _ => 0) 61)).alloc (.cells (LA b fun _ => 0) 61)) (w.heap.size + 1) c y ∧ (∃ d, LongAt ((((w.alloc (.cells (LA b x) 61)).alloc (.cells (LA c y) 61)).alloc (.cells (LA false fun _ => 0) 61)).alloc (.cells (LA b fun _ => 0) 61)) (w.heap.size + 1 + 1) false d) ∧ LongAt ((((w.alloc (.cells (LA b x) 61)).alloc (.cells (LA c y) 61)).alloc (.cells (LA false fun _ => 0) 61)).alloc (.cells (LA b fun _ => 0) 61)) (w.heap.size + 1 + 1 + 1) b (fun _ => 0) ∧ Below w.heap.size w ((((w.alloc (.cells (LA b x) 61)).alloc (.cells (LA c y) 61)).alloc (.cells (LA false fun _ => 0) 61)).alloc (.cells (LA b fun _ => 0) 61))) := by
  refine ⟨?_, ?_, ⟨fun _ => 0, ?_⟩, ?_, bal (bal (bel2 _ _ _) _) _⟩ <;> (unfold LongAt; simp only [World.alloc, Array.getElem?_push, Array.size_push]; first | (simp; done) | (rw [if_neg (by omega), if_neg (by omega)]; simp))
theorem LongAt.put {w : World} {b : Nat} {s : Bool} {d : Nat → Nat} (h : LongAt w b s d) (k v : Nat) (hk : k < 16) : LongAt (w.setCell ⟨b, 1 + k, none⟩ (.int .u64 (v : Int))) b s (upd d k v) := by
  unfold LongAt
  rw [heap_setCell_same w b (1 + k) _ _ _ h, LA_set s d k v hk]
theorem LongAt.other {w : World} {b : Nat} {s : Bool} {d : Nat → Nat} (h : LongAt w b s d) (a : Addr) (v : Value) (hne : b ≠ a.block) : LongAt (w.setCell a v) b s d := (heap_setCell_other w a b v hne).trans h
theorem LongAt.drewN {w : World} {b : Nat} {s : Bool} {d : Nat → Nat} (h : LongAt w b s d) (n : Nat) : LongAt (w.drewN n) b s d := h
theorem Tryz.info28 : (Tryz.prog.info? 61).map (·.size) = some 17 := by kernel_rfl
theorem LongAt.loadVar {w : World} {b : Nat} {s : Bool} {d : Nat → Nat} (h : LongAt w b s d) : (Go.loadVar 61 ⟨b, 0, none⟩).run Tryz.prog w = .ok (.agg (LA s d)) w :=
  run_loadVar_row _ _ _ _ _ _ _ h Tryz.underlying61 rfl Tryz.info28
theorem LongAt.load {w : World} {b : Nat} {s : Bool} {d : Nat → Nat} (h : LongAt w b s d) : (Instr.loadAt 61 (.pointer (some ⟨b, 0, none⟩))).run Tryz.prog w = .ok (.agg (LA s d)) w := by
  simp only [Instr.loadAt, Instr.sureAddr, Sem.run_bind, Sem.run_pure, Result.andThen_ok, h.loadVar]
theorem below_setRowL {B : Nat} {a w : World} (h : Below B a w) (g : Nat) (c : Array Value) (hB : B ≤ g) : Below B a (w.setRow g c) := by
  refine ⟨h.os, h.tape, h.output, ?_, fun k hk => ?_⟩
  · have := h.size; simp [World.setRow]; exact this
  · rw [← h.block k hk]
    simp only [World.setRow, Array.getElem?_modify]
    rw [if_neg (by omega)]
theorem LongAt.store {w : World} {b : Nat} {s : Bool} {d : Nat → Nat} (h : LongAt w b s d) (s2 : Bool) (d2 : Nat → Nat) : ∃ w2, (Instr.storeAt 61 (.pointer (some ⟨b, 0, none⟩)) (.agg (LA s2 d2))).run Tryz.prog w = .ok () w2 ∧ LongAt w2 b s2 d2 ∧ (∀ B a, Below B a w → B ≤ b → Below B a w2) := by
  refine ⟨w.setRow b (LA s2 d2), ?_, ?_, fun B a hb hB => below_setRowL hb b _ hB⟩
  · simp only [Instr.storeAt, Instr.sureAddr, Sem.run_bind, Sem.run_pure, Result.andThen_ok, run_storeVar_row w b 61 61 (LA s d) (LA s2 d2) h Tryz.info28 rfl (LA_one s2 d2)]
  · unfold LongAt at h ⊢
    simp [World.setRow, Array.getElem?_modify, h]
theorem wpList_load_long {ops : Array Oper} {rest : List Oper} {o : Oper} {a : Act} {w : World} {Q : Exit → Act → World → Prop} (hgd : o.guard = none) (x : Operand) (ho : o.op = .load 61 x)
    {b : Nat} {s : Bool} {d : Nat → Nat} (hL : LongAt w b s d) (hx : a.eval x = .pointer (some ⟨b, 0, none⟩)) (h : wpList Tryz.prog ops Q rest (a.put o.dst (.agg (LA s d))) w) : wpList Tryz.prog ops Q (o :: rest) a w :=
  wpList_plain hgd fun _ hK => by
    unfold Oper.wp execOp
    simp only [ho, hx, Sem.run_bind, Sem.run_pure, Result.andThen_ok, hL.load]
    exact hK _ _ h
theorem wpList_store_long {ops : Array Oper} {rest : List Oper} {o : Oper} {a : Act} {w : World} {Q : Exit → Act → World → Prop} (hgd : o.guard = none) (x y : Operand) (ho : o.op = .store 61 x y)
    {b : Nat} {s s2 : Bool} {d d2 : Nat → Nat} (hL : LongAt w b s d) (hx : a.eval x = .pointer (some ⟨b, 0, none⟩)) (hy : a.eval y = .agg (LA s2 d2))
    (h : ∀ w2, LongAt w2 b s2 d2 → (∀ B a, Below B a w → B ≤ b → Below B a w2) → wpList Tryz.prog ops Q rest (a.put o.dst undef) w2) : wpList Tryz.prog ops Q (o :: rest) a w :=
  wpList_plain hgd fun _ hK => by
    obtain ⟨w2, h1, h2, h3⟩ := hL.store s2 d2
    unfold Oper.wp execOp
    simp only [ho, hx, hy, Sem.run_bind, Sem.run_pure, Result.andThen_ok, h1]
    exact hK _ _ (h w2 h2 h3)
theorem results_cell {fn : Func} {t : Tmp} {ty : TypeId} (h : fn.results = #[.cell t ty]) (tmps : Array Value) (w : World) (b : Nat) (v : Value) (ht : tmps.getD t undef = .pointer (some ⟨b, 0, none⟩)) (hl : (Go.loadVar ty ⟨b, 0, none⟩).run Tryz.prog w = .ok v w) :
    (results fn tmps).run Tryz.prog w = .ok v w := by
  simp only [Array.getD_eq_getD_getElem?] at ht
  simp [results, h, ht, asAddr, hl]
theorem Dig.upd {d : Nat → Nat} (h : Dig d) (k v : Nat) (hv : v < 65536) : Dig (upd d k v) := fun i => by
  unfold Go.Proofs.YtblfmfanfpohbaaGreat.upd
  split
  · exact hv
  · exact h i
end Go.Proofs.YtblfmfanfpohbaaGreat
