/- What crc.oneNought, of and twice answer: a map of the register, as the images of its 32 bits. -/
import Derived.Test.YtnecnedkoddihaaDoorCrc
import Derived.Deep.MidRow
import Derived.BigQuiet
import Derived.Deep.QuietTactic
import Derived.Deep.RegionWith
namespace Go.Proofs.YtnecnedkoddihaaDoor
open Go.ChangeShapes Go.WideShapes Go.ChangeAt Go.RowKit
/-- the cells of a map: the images of the bits -/
def LN (d : Nat → Nat) : Array Value := #[.int .u32 (d 0 : Int), .int .u32 (d 1 : Int), .int .u32 (d 2 : Int), .int .u32 (d 3 : Int), .int .u32 (d 4 : Int), .int .u32 (d 5 : Int), .int .u32 (d 6 : Int), .int .u32 (d 7 : Int), .int .u32 (d 8 : Int), .int .u32 (d 9 : Int), .int .u32 (d 10 : Int), .int .u32 (d 11 : Int), .int .u32 (d 12 : Int), .int .u32 (d 13 : Int), .int .u32 (d 14 : Int), .int .u32 (d 15 : Int), .int .u32 (d 16 : Int), .int .u32 (d 17 : Int), .int .u32 (d 18 : Int), .int .u32 (d 19 : Int), .int .u32 (d 20 : Int), .int .u32 (d 21 : Int), .int .u32 (d 22 : Int), .int .u32 (d 23 : Int), .int .u32 (d 24 : Int), .int .u32 (d 25 : Int), .int .u32 (d 26 : Int), .int .u32 (d 27 : Int), .int .u32 (d 28 : Int), .int .u32 (d 29 : Int), .int .u32 (d 30 : Int), .int .u32 (d 31 : Int)]
theorem lt32 {k : Nat} (h : k < 32) : k = 0 ∨ k = 1 ∨ k = 2 ∨ k = 3 ∨ k = 4 ∨ k = 5 ∨ k = 6 ∨ k = 7 ∨ k = 8 ∨ k = 9 ∨ k = 10 ∨ k = 11 ∨ k = 12 ∨ k = 13 ∨ k = 14 ∨ k = 15 ∨ k = 16 ∨ k = 17 ∨ k = 18 ∨ k = 19 ∨ k = 20 ∨ k = 21 ∨ k = 22 ∨ k = 23 ∨ k = 24 ∨ k = 25 ∨ k = 26 ∨ k = 27 ∨ k = 28 ∨ k = 29 ∨ k = 30 ∨ k = 31 := by omega
theorem LN_size (d : Nat → Nat) : (LN d).size = 32 := rfl
theorem LN_get (d : Nat → Nat) (k : Nat) (h : k < 32) : (LN d)[k]? = some (.int .u32 (d k : Int)) := by
  rcases lt32 h with rfl | rfl | rfl | rfl | rfl | rfl | rfl | rfl | rfl | rfl | rfl | rfl | rfl | rfl | rfl | rfl | rfl | rfl | rfl | rfl | rfl | rfl | rfl | rfl | rfl | rfl | rfl | rfl | rfl | rfl | rfl | rfl <;> rfl
def updL (d : Nat → Nat) (k v : Nat) : Nat → Nat := fun i => if i = k then v else d i
theorem LN_set (d : Nat → Nat) (k v : Nat) (h : k < 32) : (LN d).setIfInBounds k (.int .u32 (v : Int)) = LN (updL d k v) := by
  rcases lt32 h with rfl | rfl | rfl | rfl | rfl | rfl | rfl | rfl | rfl | rfl | rfl | rfl | rfl | rfl | rfl | rfl | rfl | rfl | rfl | rfl | rfl | rfl | rfl | rfl | rfl | rfl | rfl | rfl | rfl | rfl | rfl | rfl <;> rfl
theorem LN_one (d : Nat → Nat) : (LN d).all (·.oneCell') = true := by simp [LN, Value.oneCell']
theorem LN_congr (d e : Nat → Nat) (h : ∀ i, i < 32 → d i = e i) : LN d = LN e := by
  simp only [LN]
  rw [h 0 (by omega), h 1 (by omega), h 2 (by omega), h 3 (by omega), h 4 (by omega), h 5 (by omega), h 6 (by omega), h 7 (by omega), h 8 (by omega), h 9 (by omega), h 10 (by omega), h 11 (by omega), h 12 (by omega), h 13 (by omega), h 14 (by omega), h 15 (by omega), h 16 (by omega), h 17 (by omega), h 18 (by omega), h 19 (by omega), h 20 (by omega), h 21 (by omega), h 22 (by omega), h 23 (by omega), h 24 (by omega), h 25 (by omega), h 26 (by omega), h 27 (by omega), h 28 (by omega), h 29 (by omega), h 30 (by omega), h 31 (by omega)]
/-- the map lies in block b of w -/
def LinAt (w : World) (b : Nat) (d : Nat → Nat) : Prop := w.heap[b]? = some (.cells (LN d) 40)
theorem LinAt.lt {w : World} {b : Nat} {d : Nat → Nat} (h : LinAt w b d) : b < w.heap.size := by
  by_cases hh : b < w.heap.size
  · exact hh
  · unfold LinAt at h; rw [Array.getElem?_eq_none (by omega)] at h; cases h
theorem LinAt.bit {w : World} {b : Nat} {d : Nat → Nat} (h : LinAt w b d) (k : Nat) (hk : k < 32) : w.cell? ⟨b, k, none⟩ = some (.int .u32 (d k : Int)) := by
  rw [cell_of_row w b k _ _ _ h, LN_get d k hk]
theorem LinAt.keep {B : Nat} {w w' : World} {b : Nat} {d : Nat → Nat} (h : LinAt w b d) (hb : Below B w w') (hlt : b < B) : LinAt w' b d := (hb.block b hlt).trans h
theorem LinAt.free {w : World} {b : Nat} {d : Nat → Nat} (h : LinAt w b d) (k : Nat) : w.frozen? ⟨b, k, none⟩ = false := frozen_of_row w b k _ _ h
theorem LinAt.put {w : World} {b : Nat} {d : Nat → Nat} (h : LinAt w b d) (k v : Nat) (hk : k < 32) : LinAt (w.setCell ⟨b, k, none⟩ (.int .u32 (v : Int))) b (updL d k v) := by
  unfold LinAt
  rw [heap_setCell_same w b k _ _ _ h, LN_set d k v hk]
theorem LinAt.other {w : World} {b : Nat} {d : Nat → Nat} (h : LinAt w b d) (a : Addr) (v : Value) (hne : b ≠ a.block) : LinAt (w.setCell a v) b d := (heap_setCell_other w a b v hne).trans h
theorem LinAt.drew {w : World} {b : Nat} {d : Nat → Nat} (h : LinAt w b d) : LinAt w.drew b d := h
theorem LinAt.new (w : World) (d : Nat → Nat) (X : Array Value) (h : X = LN d) : LinAt (w.alloc (.cells X 40)) w.heap.size d := by
  unfold LinAt; subst h; simp only [World.alloc, Array.getElem?_push]; rw [if_pos trivial]
theorem LinAt.alloc {w : World} {b : Nat} {d : Nat → Nat} (h : LinAt w b d) (o : Obj) : LinAt (w.alloc o) b d := by
  have := h.lt
  unfold LinAt at h ⊢; simp only [World.alloc, Array.getElem?_push]; rw [if_neg (by omega)]; exact h
theorem Tryd.infoLin : (Tryd.prog.info? 40).map (·.size) = some 32 := by kernel_rfl
theorem LinAt.loadVar {w : World} {b : Nat} {d : Nat → Nat} (h : LinAt w b d) : (Go.loadVar 40 ⟨b, 0, none⟩).run Tryd.prog w = .ok (.agg (LN d)) w :=
  run_loadVar_row _ _ _ _ _ _ _ h Tryd.underlying40 rfl Tryd.infoLin
theorem LinAt.load {w : World} {b : Nat} {d : Nat → Nat} (h : LinAt w b d) : (Instr.loadAt 40 (.pointer (some ⟨b, 0, none⟩))).run Tryd.prog w = .ok (.agg (LN d)) w := by
  simp only [Instr.loadAt, Instr.sureAddr, Sem.run_bind, Sem.run_pure, Result.andThen_ok, h.loadVar]
theorem below_setRowL {B : Nat} {a w : World} (h : Below B a w) (g : Nat) (c : Array Value) (hB : B ≤ g) : Below B a (w.setRow g c) := by
  refine ⟨h.os, h.tape, h.output, ?_, fun k hk => ?_⟩
  · have := h.size; simp [World.setRow]; exact this
  · rw [← h.block k hk]
    simp only [World.setRow, Array.getElem?_modify]
    rw [if_neg (by omega)]
theorem LinAt.store {w : World} {b : Nat} {d : Nat → Nat} (h : LinAt w b d) (d2 : Nat → Nat) : ∃ w2, (Instr.storeAt 40 (.pointer (some ⟨b, 0, none⟩)) (.agg (LN d2))).run Tryd.prog w = .ok () w2 ∧ LinAt w2 b d2 ∧ (∀ B a, Below B a w → B ≤ b → Below B a w2) := by
  refine ⟨w.setRow b (LN d2), ?_, ?_, fun B a hb hB => below_setRowL hb b _ hB⟩
  · simp only [Instr.storeAt, Instr.sureAddr, Sem.run_bind, Sem.run_pure, Result.andThen_ok, run_storeVar_row w b 40 40 (LN d) (LN d2) h Tryd.infoLin rfl (LN_one d2)]
  · unfold LinAt at h ⊢
    simp [World.setRow, Array.getElem?_modify, h]
theorem guard_loadL {ops : Array Oper} {rest : List Oper} {a : Act} {w : World} {Q : Exit → Act → World → Prop} {dst : Option Tmp} {ty : TypeId} {pos : String} {after : Array Edge} {x : Operand} (t : TypeId)
    (h : wpList Tryd.prog ops Q (⟨dst, .load t x, ty, pos, after, none⟩ :: rest) a w) : wpList Tryd.prog ops Q (⟨dst, .load t x, ty, pos, after, none⟩ :: rest) a w := h
theorem guard_storeL {ops : Array Oper} {rest : List Oper} {a : Act} {w : World} {Q : Exit → Act → World → Prop} {dst : Option Tmp} {ty : TypeId} {pos : String} {after : Array Edge} {x y : Operand} (t : TypeId)
    (h : wpList Tryd.prog ops Q (⟨dst, .store t x y, ty, pos, after, none⟩ :: rest) a w) : wpList Tryd.prog ops Q (⟨dst, .store t x y, ty, pos, after, none⟩ :: rest) a w := h
theorem wpList_load_lin {ops : Array Oper} {rest : List Oper} {o : Oper} {a : Act} {w : World} {Q : Exit → Act → World → Prop} (hgd : o.guard = none) (x : Operand) (ho : o.op = .load 40 x)
    {b : Nat} {d : Nat → Nat} (hL : LinAt w b d) (hx : a.eval x = .pointer (some ⟨b, 0, none⟩)) (h : wpList Tryd.prog ops Q rest (a.put o.dst (.agg (LN d))) w) : wpList Tryd.prog ops Q (o :: rest) a w :=
  wpList_plain hgd fun _ hK => by
    unfold Oper.wp execOp
    simp only [ho, hx, Sem.run_bind, Sem.run_pure, Result.andThen_ok, hL.load]
    exact hK _ _ h
theorem wpList_store_lin {ops : Array Oper} {rest : List Oper} {o : Oper} {a : Act} {w : World} {Q : Exit → Act → World → Prop} (hgd : o.guard = none) (x y : Operand) (ho : o.op = .store 40 x y) (hdst : o.dst = none)
    {b : Nat} {d d2 : Nat → Nat} (hL : LinAt w b d) (hx : a.eval x = .pointer (some ⟨b, 0, none⟩)) (hy : a.eval y = .agg (LN d2))
    (h : ∀ w2, LinAt w2 b d2 → (∀ B a, Below B a w → B ≤ b → Below B a w2) → wpList Tryd.prog ops Q rest a w2) : wpList Tryd.prog ops Q (o :: rest) a w :=
  wpList_plain hgd fun _ hK => by
    obtain ⟨w2, h1, h2, h3⟩ := hL.store d2
    unfold Oper.wp execOp
    simp only [ho, hx, hy, Sem.run_bind, Sem.run_pure, Result.andThen_ok, h1]
    have e : a.put o.dst undef = a := by rw [hdst]; rfl
    exact hK _ _ (by rw [e]; exact h w2 h2 h3)
theorem results_lin {fn : Func} {t : Tmp} {ty : TypeId} (h : fn.results = #[.cell t ty]) (tmps : Array Value) (w : World) (b : Nat) (v : Value) (ht : tmps.getD t undef = .pointer (some ⟨b, 0, none⟩)) (hl : (Go.loadVar ty ⟨b, 0, none⟩).run Tryd.prog w = .ok v w) :
    (results fn tmps).run Tryd.prog w = .ok v w := by
  simp only [Array.getD_eq_getD_getElem?] at ht
  simp [results, h, ht, asAddr, hl]
theorem step_load_lin {ops : Array Oper} {o : Oper} {a : Act} {w : World} {K : Act → World → Prop} {Q : Exit → Act → World → Prop} {E : Prop} (hg : o.guard = none) (x : Operand) (ho : o.op = .load 40 x)
    {b : Nat} {d : Nat → Nat} (hL : LinAt w b d) (hx : a.eval x = .pointer (some ⟨b, 0, none⟩)) (hK : K (a.put o.dst (.agg (LN d))) w) :
    if Region.wanted o (yielded ops a.tmps) = true then Oper.wp Tryd.prog o a w K Q else E := by
  have hw : Region.wanted o (yielded ops a.tmps) = true := by simp [Region.wanted, hg]
  rw [if_pos hw]
  unfold Oper.wp execOp
  simp only [ho, hx, Sem.run_bind, Sem.run_pure, Result.andThen_ok, hL.load]
  exact hK
/-- the image of the k lowest bits of r -/
def ofN (d : Nat → Nat) (r : Nat) : Nat → Nat
  | 0 => 0
  | k + 1 => if r / 2 ^ k % 2 = 1 then ofN d r k ^^^ d k else ofN d r k
theorem ofN_lt (d : Nat → Nat) (r k : Nat) (h : ∀ i, d i < 4294967296) : ofN d r k < 4294967296 := by
  induction k with
  | zero => simp [ofN]
  | succ k ih =>
    rw [ofN]
    split
    · exact xor_lt32 ih (h k)
    · exact ih
theorem modL (P i : Nat) : P % 2 ^ (i + 1) = (P % 2 ^ i) ^^^ 2 ^ i * (P / 2 ^ i % 2) := by
  have h : P % 2 ^ (i + 1) = P % 2 ^ i + 2 ^ i * (P / 2 ^ i % 2) := by rw [Nat.pow_succ, Nat.mod_mul]
  rw [h, Crcm.add_eq_xor i _ _ (Nat.mod_lt _ (Nat.two_pow_pos i))]
/-- if the images are those of n shifts, the image of a register is it shifted n times -/
theorem ofN_shN (d : Nat → Nat) (n r k : Nat) (h : ∀ i, i < k → d i = Crcm.shN n (2 ^ i)) : ofN d r k = Crcm.shN n (r % 2 ^ k) := by
  induction k with
  | zero => rw [Nat.pow_zero, Nat.mod_one, Crcm.shN_zero]; rfl
  | succ k ih =>
    rw [ofN, ih fun i hi => h i (by omega), h k (by omega), modL, Crcm.shN_xor]
    split
    · rename_i h1; rw [h1, Nat.mul_one]
    · rename_i h1; rw [show r / 2 ^ k % 2 = 0 from by omega, Nat.mul_zero, Crcm.shN_zero, Nat.xor_zero]
/-- a map of n shifts -/
def IsSh (d : Nat → Nat) (n : Nat) : Prop := ∀ i, i < 32 → d i = Crcm.shN n (2 ^ i)
theorem IsSh.of {d : Nat → Nat} {n : Nat} (h : IsSh d n) (r : Nat) (hr : r < 4294967296) : ofN d r 32 = Crcm.shN n r := by
  rw [ofN_shN d n r 32 h, Nat.mod_eq_of_lt hr]
theorem pow32 (i : Nat) (h : i < 32) : 2 ^ i < 2 ^ 32 := Nat.pow_lt_pow_right (by omega) h
end Go.Proofs.YtnecnedkoddihaaDoor
