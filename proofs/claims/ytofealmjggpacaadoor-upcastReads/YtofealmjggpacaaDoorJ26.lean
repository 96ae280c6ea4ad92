/- Own texts, joined: EvM. -/
import Derived.Test.YtofealmjggpacaaDoorJ00
import Derived.Test.YtofealmjggpacaaDoorJ19
import Derived.Test.YtofealmjggpacaaDoorJ20
import Derived.Test.YtofealmjggpacaaDoorJ21
import Derived.Test.YtofealmjggpacaaDoorJ22
import Derived.Test.YtofealmjggpacaaDoorJ23
import Derived.Test.YtofealmjggpacaaDoorJ03
import Derived.Laws.ResultCell
namespace Go.Proofs.YtofealmjggpacaaDoor
open Go.ChangeShapes Go.WideShapes Go.ChangeAt Go.RowKit
def evA (e : Ev) : Array Value := #[.int .i64 e.kind, .int .i64 e.order, .int .i64 e.item, .int .i64 e.qty, .int .i64 e.price, .int .i64 e.cur, .int .i64 e.tax, .string e.who, .int .i64 e.stamp, .string e.note]
def zeroE : Ev := ⟨0, 0, 0, 0, 0, 0, 0, ⟨#[]⟩, 0, ⟨#[]⟩⟩
theorem evA_one (e : Ev) : (evA e).all (·.oneCell') = true := by simp [evA, Value.oneCell']
def EvAt (w : World) (b : Nat) (e : Ev) : Prop := w.heap[b]? = some (.cells (evA e) 25)
theorem EvAt.lt {w : World} {b : Nat} {e : Ev} (h : EvAt w b e) : b < w.heap.size := by
  by_cases hh : b < w.heap.size
  · exact hh
  · unfold EvAt at h; rw [Array.getElem?_eq_none (by omega)] at h; cases h
theorem EvAt.keep {B : Nat} {w w' : World} {b : Nat} {e : Ev} (h : EvAt w b e) (hb : Below B w w') (hlt : b < B) : EvAt w' b e := (hb.block b hlt).trans h
theorem EvAt.after {w w' : World} {b : Nat} {e : Ev} (h : EvAt w b e) (hb : Below w.heap.size w w') : EvAt w' b e := h.keep hb h.lt
theorem Tryd.infoEv : (Tryd.prog.info? 25).map (·.size) = some 10 := by kernel_rfl
theorem EvAt.loadVar {w : World} {b : Nat} {e : Ev} (h : EvAt w b e) : (Go.loadVar 25 ⟨b, 0, none⟩).run Tryd.prog w = .ok (.agg (evA e)) w :=
  run_loadVar_row _ _ _ _ _ _ _ h Tryd.underlying25 rfl Tryd.infoEv
theorem EvAt.load {w : World} {b : Nat} {e : Ev} (h : EvAt w b e) : (Instr.loadAt 25 (.pointer (some ⟨b, 0, none⟩))).run Tryd.prog w = .ok (.agg (evA e)) w := by
  simp only [Instr.loadAt, Instr.sureAddr, Sem.run_bind, Sem.run_pure, Result.andThen_ok, h.loadVar]
theorem below_setRow {B : Nat} {a w : World} (h : Below B a w) (g : Nat) (c : Array Value) (hB : B ≤ g) : Below B a (w.setRow g c) := by
  refine ⟨h.os, h.tape, h.output, ?_, fun k hk => ?_⟩
  · have := h.size; simp [World.setRow]; exact this
  · rw [← h.block k hk]
    simp only [World.setRow, Array.getElem?_modify]
    rw [if_neg (by omega)]
theorem EvAt.store {w : World} {b : Nat} {e : Ev} (h : EvAt w b e) (e2 : Ev) : ∃ w2, (Instr.storeAt 25 (.pointer (some ⟨b, 0, none⟩)) (.agg (evA e2))).run Tryd.prog w = .ok () w2 ∧ EvAt w2 b e2 ∧ (∀ B a, Below B a w → B ≤ b → Below B a w2) ∧ (∀ k, k ≠ b → w2.heap[k]? = w.heap[k]?) ∧ w2.heap.size = w.heap.size := by
  refine ⟨w.setRow b (evA e2), ?_, ?_, fun B a hb hB => below_setRow hb b _ hB, fun k hk => ?_, ?_⟩
  · simp only [Instr.storeAt, Instr.sureAddr, Sem.run_bind, Sem.run_pure, Result.andThen_ok, run_storeVar_row w b 25 25 (evA e) (evA e2) h Tryd.infoEv rfl (evA_one e2)]
  · unfold EvAt at h ⊢
    simp [World.setRow, Array.getElem?_modify, h]
  · simp only [World.setRow, Array.getElem?_modify]
    rw [if_neg (Ne.symm hk)]
  · simp [World.setRow]
theorem wpList_load_ev {ops : Array Oper} {rest : List Oper} {o : Oper} {a : Act} {w : World} {Q : Exit → Act → World → Prop} (hgd : o.guard = none) (x : Operand) (ho : o.op = .load 25 x)
    {b : Nat} {e : Ev} (hL : EvAt w b e) (hx : a.eval x = .pointer (some ⟨b, 0, none⟩)) (h : wpList Tryd.prog ops Q rest (a.put o.dst (.agg (evA e))) w) : wpList Tryd.prog ops Q (o :: rest) a w :=
  wpList_plain hgd fun _ hK => by
    unfold Oper.wp execOp
    simp only [ho, hx, Sem.run_bind, Sem.run_pure, Result.andThen_ok, hL.load]
    exact hK _ _ h
theorem wpList_store_ev {ops : Array Oper} {rest : List Oper} {o : Oper} {a : Act} {w : World} {Q : Exit → Act → World → Prop} (hgd : o.guard = none) (x y : Operand) (ho : o.op = .store 25 x y)
    {b : Nat} {e e2 : Ev} (hL : EvAt w b e) (hx : a.eval x = .pointer (some ⟨b, 0, none⟩)) (hy : a.eval y = .agg (evA e2))
    (h : ∀ w2, EvAt w2 b e2 → (∀ B a, Below B a w → B ≤ b → Below B a w2) → (∀ k, k ≠ b → w2.heap[k]? = w.heap[k]?) → w2.heap.size = w.heap.size → wpList Tryd.prog ops Q rest (a.put o.dst undef) w2) : wpList Tryd.prog ops Q (o :: rest) a w :=
  wpList_plain hgd fun _ hK => by
    obtain ⟨w2, h1, h2, h3, h4, h5⟩ := hL.store e2
    unfold Oper.wp execOp
    simp only [ho, hx, hy, Sem.run_bind, Sem.run_pure, Result.andThen_ok, h1]
    exact hK _ _ (h w2 h2 h3 h4 h5)
theorem results_ev {fn : Func} {p u : Tmp} (h : fn.results = #[.cell p 25, .tmp u]) (tmps : Array Value) (w : World) (b : Nat) (e : Ev) (x : Value) (hp : tmps.getD p undef = .pointer (some ⟨b, 0, none⟩)) (hx : tmps.getD u undef = x) (hl : EvAt w b e) :
    (results fn tmps).run Tryd.prog w = .ok (.tuple #[.agg (evA e), x]) w := by
  rw [results_cell_tmp h, hp]
  simp only [asAddr, Sem.run_pure, Result.andThen_ok, hl.loadVar, hx]
/-- the least quantity, the highest price, the last kind of a version -/
def loQ (v : Int) : Int := if v ≤ 2 then -10000 else 0
def hiP (v : Int) : Int := if v ≤ 1 then 1000000 else 100000000
def lastK (v : Int) : Int := if v ≤ 2 then 5 else if v ≤ 3 then 7 else if v ≤ 4 then 9 else 10
def chk (v : Int) (e : Ev) : Int := if v < 1 ∨ 5 < v then 30 else chkV v (loQ v) (hiP v) (lastK v) e.kind e.order e.item e.qty e.price e.cur e.tax e.who e.stamp e.note
set_option maxRecDepth 20000 in
theorem check_no (v : Int) (e : Ev) (w : World) (h : v < 1 ∨ 5 < v) :
    Calls Tryd.prog 34 #[.int .i64 v, .agg (evA e)] w fun x w' => x = .returned (.int .i64 30) ∧ Below w.heap.size w w' := by
  have HV : Hid (v < 1 ∨ 5 < v) := h
  clear h
  go_enter Tryd.func34, Tryd.ntmps34
  go_wp2_with (go_at_call 64; refine (find_no v _ HV.out).mono ?_; rintro e w' ⟨rfl, rfl⟩)
  go_ret
  exact ⟨rfl, (Below.refl _ _).alloc (Nat.le_refl _) _⟩
theorem check_ev (v : Int) (e : Ev) (w : World) :
    Calls Tryd.prog 34 #[.int .i64 v, .agg (evA e)] w fun x w' => x = .returned (.int .i64 (chk v e)) ∧ Below w.heap.size w w' := by
  by_cases h : v < 1 ∨ 5 < v
  · rw [show chk v e = 30 from if_pos h]
    exact check_no v e w h
  · rw [show chk v e = chkV v (loQ v) (hiP v) (lastK v) e.kind e.order e.item e.qty e.price e.cur e.tax e.who e.stamp e.note from if_neg h]
    have hv : v = 1 ∨ v = 2 ∨ v = 3 ∨ v = 4 ∨ v = 5 := by omega
    rcases hv with rfl | rfl | rfl | rfl | rfl
    · exact check1 e.kind e.order e.item e.qty e.price e.cur e.tax e.who e.stamp e.note w
    · exact check2 e.kind e.order e.item e.qty e.price e.cur e.tax e.who e.stamp e.note w
    · exact check3 e.kind e.order e.item e.qty e.price e.cur e.tax e.who e.stamp e.note w
    · exact check4 e.kind e.order e.item e.qty e.price e.cur e.tax e.who e.stamp e.note w
    · exact check5 e.kind e.order e.item e.qty e.price e.cur e.tax e.who e.stamp e.note w
/-- an event is right in a version -/
structure Right (v : Int) (e : Ev) : Prop where
  v1 : 1 ≤ v
  v5 : v ≤ 5
  kind0 : 1 ≤ e.kind
  kind1 : e.kind ≤ lastK v
  who : e.who.size ≤ 16
  note : e.note.size ≤ 120
  order0 : 1 ≤ e.order
  order1 : e.order ≤ 1099511627776
  item0 : 0 ≤ e.item
  item1 : e.item ≤ 65535
  qty0 : loQ v ≤ e.qty
  qty1 : e.qty ≤ 10000
  price0 : 0 ≤ e.price
  price1 : e.price ≤ hiP v
  cur0 : 0 ≤ e.cur
  cur1 : e.cur ≤ 3
  tax0 : 0 ≤ e.tax
  tax1 : e.tax ≤ 5000
  plain : plainB e.who.data.toList = true
  stamp0 : 0 ≤ e.stamp
  stamp1 : e.stamp ≤ 1099511627776
  own1 : 1 < v ∨ e.cur = 0
  own2 : 2 < v ∨ e.tax = 0
  own3 : 3 < v ∨ nilB e.who = true
  own4 : 4 < v ∨ (e.stamp = 0 ∧ nilB e.note = true)
theorem right_of {v : Int} {e : Ev} (h : chk v e = 0) : Right v e := by
  unfold chk at h
  split at h
  · cases h
  · rename_i hv
    unfold chkV at h
    split at h
    · cases h
    · rename_i hk
      split at h
      · cases h
      · rename_i hs
        split at h
        · rename_i hb
          obtain ⟨h1, h2⟩ := hb
          simp only [bnd, wit, Bool.and_eq_true, decide_eq_true_eq] at h1
          simp only [ownB, Bool.and_eq_true, Bool.or_eq_true, decide_eq_true_eq, beq_iff_eq] at h2
          obtain ⟨⟨a1, a2⟩, ⟨a3, a4⟩, ⟨a5, a6⟩, ⟨a7, a8⟩, ⟨a9, a10⟩, ⟨a11, a12⟩, a13, a14, a15⟩ := h1
          obtain ⟨b1, b2, b3, b4⟩ := h2
          exact ⟨by omega, by omega, by omega, by omega, by omega, by omega, a1, a2, a3, a4, a5, a6, a7, a8, a9, a10, a11, a12, a13, a14, a15, b1, b2, b3, b4⟩
        · cases h
theorem chk_of {v : Int} {e : Ev} (r : Right v e) : chk v e = 0 := by
  unfold chk
  rw [if_neg (by have := r.v1; have := r.v5; omega)]
  unfold chkV
  rw [if_neg (by have := r.kind0; have := r.kind1; omega), if_neg (by have := r.who; have := r.note; omega), if_pos]
  refine ⟨?_, ?_⟩
  · simp only [bnd, wit, Bool.and_eq_true, decide_eq_true_eq]
    exact ⟨⟨r.order0, r.order1⟩, ⟨r.item0, r.item1⟩, ⟨r.qty0, r.qty1⟩, ⟨r.price0, r.price1⟩, ⟨r.cur0, r.cur1⟩, ⟨r.tax0, r.tax1⟩, r.plain, r.stamp0, r.stamp1⟩
  · simp only [ownB, Bool.and_eq_true, Bool.or_eq_true, decide_eq_true_eq, beq_iff_eq]
    exact ⟨r.own1, r.own2, r.own3, r.own4⟩
theorem evAt_new (w : World) (e : Ev) : EvAt (w.alloc (.cells (evA e) 25)) w.heap.size e := by
  unfold EvAt; exact heap_alloc_new w _
end Go.Proofs.YtofealmjggpacaaDoor
