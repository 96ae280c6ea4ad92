/- Own texts, joined: Evg. -/
import Derived.Test.YtofealmjggpacaaDoorJ26
namespace Go.Proofs.YtofealmjggpacaaDoor
open Go.ChangeShapes Go.WideShapes Go.ChangeAt Go.RowKit
theorem wpList_want {ops : Array Oper} {rest : List Oper} {o : Oper} {a : Act} {w : World} {Q : Exit → Act → World → Prop} (hw : Region.wanted o (yielded ops a.tmps) = true)
    (h : ∀ K : Act → World → Prop, (∀ a w, wpList Tryd.prog ops Q rest a w → K a w) → o.wp Tryd.prog a w K Q) : wpList Tryd.prog ops Q (o :: rest) a w :=
  wpList_step fun K hK => by rw [if_pos hw]; exact h K hK
theorem guard_loadg {ops : Array Oper} {rest : List Oper} {a : Act} {w : World} {Q : Exit → Act → World → Prop} {dst : Option Tmp} {ty : TypeId} {pos : String} {after : Array Edge} {x : Operand} {g : Nat × Bool} (t : TypeId)
    (h : wpList Tryd.prog ops Q (⟨dst, .load t x, ty, pos, after, some g⟩ :: rest) a w) : wpList Tryd.prog ops Q (⟨dst, .load t x, ty, pos, after, some g⟩ :: rest) a w := h
theorem wpList_load_evg {ops : Array Oper} {rest : List Oper} {o : Oper} {a : Act} {w : World} {Q : Exit → Act → World → Prop} (hw : Region.wanted o (yielded ops a.tmps) = true) (x : Operand) (ho : o.op = .load 25 x)
    {b : Nat} {e : Ev} (hL : EvAt w b e) (hx : a.eval x = .pointer (some ⟨b, 0, none⟩)) (h : wpList Tryd.prog ops Q rest (a.put o.dst (.agg (evA e))) w) : wpList Tryd.prog ops Q (o :: rest) a w :=
  wpList_want hw fun _ hK => by
    unfold Oper.wp execOp
    simp only [ho, hx, Sem.run_bind, Sem.run_pure, Result.andThen_ok, hL.load]
    exact hK _ _ h
set_option maxRecDepth 20000 in
theorem ev_self (e : Ev) (w : World) : (Op.equalIn 10000 25 (.agg (evA e)) (.agg (evA e))).run Tryd.prog w = .ok true w := by
  unfold evA
  simp [go_sem, Tryd.underlying25]
theorem ev_eql (e : Ev) (w : World) : (binOp .eql 25 (.agg (evA e)) (.agg (evA e))).run Tryd.prog w = .ok (.bool true) w := by
  rw [run_eql_struct, ev_self]; rfl
theorem ev_neq (e : Ev) (w : World) : (binOp .neq 25 (.agg (evA e)) (.agg (evA e))).run Tryd.prog w = .ok (.bool false) w := by
  rw [run_neq_struct, ev_self]; rfl
theorem exec_load_ev {o : Oper} {a : Act} {w : World} (x : Operand) (ho : o.op = .load 25 x) {b : Nat} {e : Ev} (hx : a.eval x = .pointer (some ⟨b, 0, none⟩)) (hL : EvAt w b e) : (execOp a.eval o).run Tryd.prog w = .ok (.value (.agg (evA e))) w := by
  unfold execOp
  simp only [ho, hx, Sem.run_bind, Sem.run_pure, Result.andThen_ok, hL.load]
/-- an event in block b; nothing older than w has turned -/
def EvC (w : World) (b : Nat) (e : Ev) (x : World) : Prop := EvAt x b e ∧ Below w.heap.size w x
theorem EvC.keep {w x y : World} {b : Nat} {e : Ev} (h : EvC w b e x) (hb : Below x.heap.size x y) : EvC w b e y := ⟨h.1.after hb, h.2.trans (hb.mono h.2.size)⟩
end Go.Proofs.YtofealmjggpacaaDoor
