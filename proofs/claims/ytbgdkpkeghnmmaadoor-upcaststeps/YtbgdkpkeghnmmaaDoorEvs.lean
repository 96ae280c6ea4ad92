/- Several events in blocks of the call's own; the very same event held against itself; what upcast.Step answers. -/
import Derived.Test.YtbgdkpkeghnmmaaDoorToM
namespace Go.Proofs.YtbgdkpkeghnmmaaDoor
open Go.ChangeShapes Go.WideShapes Go.ChangeAt Go.RowKit
/-- events that lie in blocks; nothing older than the call has turned; the table of taxes -/
def Evs (w wr : World) (l : List (Nat × Ev)) : Prop := Below w.heap.size w wr ∧ Tax wr ∧ ∀ p ∈ l, EvAt wr p.1 p.2
theorem Evs.at {w wr : World} {l : List (Nat × Ev)} (h : Evs w wr l) (i : Nat) (b : Nat) (e : Ev) (hp : l[i]? = some (b, e)) : EvAt wr b e := h.2.2 _ (List.mem_of_getElem? hp)
theorem Evs.keep {w w1 w2 : World} {l : List (Nat × Ev)} (h : Evs w w1 l) (hb : Below w1.heap.size w1 w2) : Hid (Evs w w2 l) :=
  ⟨h.1.trans (hb.mono h.1.size), h.2.1.keep hb, fun p hp => (h.2.2 p hp).after hb⟩
theorem Evs.start (w : World) (e : Ev) (ht : Tax w) : Hid (Evs w (w.alloc (.cells (evA e) 24)) [(w.heap.size, e)]) :=
  ⟨bnew w _, ht.keep (bnew w _), fun p hp => by simp at hp; subst hp; exact evAt_new w e⟩
/-- a new block, and an event stored there -/
theorem Evs.more {w w1 w2 : World} {l : List (Nat × Ev)} {O : Obj} {e : Ev} (h : Evs w w1 l) (h1 : EvAt w2 w1.heap.size e) (h2 : ∀ B a, Below B a (w1.alloc O) → B ≤ w1.heap.size → Below B a w2) : Hid (Evs w w2 ((w1.heap.size, e) :: l)) := by
  have hb : Below w1.heap.size w1 w2 := h2 _ _ (bnew w1 O) (Nat.le_refl _)
  have hk := h.keep hb
  refine ⟨hk.out.1, hk.out.2.1, fun p hp => ?_⟩
  rcases List.mem_cons.1 hp with rfl | hp
  · exact h1
  · exact hk.out.2.2 p hp
theorem wpList_want {ops : Array Oper} {rest : List Oper} {o : Oper} {a : Act} {w : World} {Q : Exit → Act → World → Prop} (hw : Region.wanted o (yielded ops a.tmps) = true)
    (h : ∀ K : Act → World → Prop, (∀ a w, wpList Tryd.prog ops Q rest a w → K a w) → o.wp Tryd.prog a w K Q) : wpList Tryd.prog ops Q (o :: rest) a w :=
  wpList_step fun K hK => by rw [if_pos hw]; exact h K hK
theorem guard_loadg {ops : Array Oper} {rest : List Oper} {a : Act} {w : World} {Q : Exit → Act → World → Prop} {dst : Option Tmp} {ty : TypeId} {pos : String} {after : Array Edge} {x : Operand} {g : Nat × Bool} (t : TypeId)
    (h : wpList Tryd.prog ops Q (⟨dst, .load t x, ty, pos, after, some g⟩ :: rest) a w) : wpList Tryd.prog ops Q (⟨dst, .load t x, ty, pos, after, some g⟩ :: rest) a w := h
theorem wpList_load_evg {ops : Array Oper} {rest : List Oper} {o : Oper} {a : Act} {w : World} {Q : Exit → Act → World → Prop} (hw : Region.wanted o (yielded ops a.tmps) = true) (x : Operand) (ho : o.op = .load 24 x)
    {b : Nat} {e : Ev} (hL : EvAt w b e) (hx : a.eval x = .pointer (some ⟨b, 0, none⟩)) (h : wpList Tryd.prog ops Q rest (a.put o.dst (.agg (evA e))) w) : wpList Tryd.prog ops Q (o :: rest) a w :=
  wpList_want hw fun _ hK => by
    unfold Oper.wp execOp
    simp only [ho, hx, Sem.run_bind, Sem.run_pure, Result.andThen_ok, hL.load]
    exact hK _ _ h
set_option maxRecDepth 20000 in
theorem ev_self (e : Ev) (w : World) : (Op.equalIn 10000 24 (.agg (evA e)) (.agg (evA e))).run Tryd.prog w = .ok true w := by
  unfold evA
  simp [go_sem, Tryd.underlying24]
theorem ev_eql (e : Ev) (w : World) : (binOp .eql 24 (.agg (evA e)) (.agg (evA e))).run Tryd.prog w = .ok (.bool true) w := by
  rw [run_eql_struct, ev_self]; rfl
theorem ev_neq (e : Ev) (w : World) : (binOp .neq 24 (.agg (evA e)) (.agg (evA e))).run Tryd.prog w = .ok (.bool false) w := by
  rw [run_neq_struct, ev_self]; rfl
theorem step_any (v : Int) (e : Ev) (w : World) (ht : Tax w) (h1 : 1 ≤ v) (h4 : v ≤ 4) :
    Calls Tryd.prog 7 #[.int .i64 v, .agg (evA e)] w fun x w' => x = .returned (.tuple #[.agg (evA (toR v (v + 1) e)), .int .i64 (toC v (v + 1) e)]) ∧ Below w.heap.size w w' := by
  have HT0 := ht.1
  have FR := Fr.start w e ht
  clear ht
  go_enter Tryd.func7, Tryd.ntmps7
  go_wp2_with (first
    | ((with_reducible refine guard_load 24 ?_); refine wpList_load_ev rfl _ rfl FR.out.1 rfl ?_)
    | (go_at_call 10; refine (to_any v (v + 1) e _ FR.out.2.2.2).mono ?_; rintro _ w8 ⟨rfl, hb8⟩; have FQ := FR.out.keep hb8; clear FR hb8; have FR := FQ; clear FQ)
    | ((with_reducible refine guard_store 24 ?_); refine wpList_store_ev rfl _ _ rfl FR.out.2.1 rfl rfl ?_; intro w9 z1 z2 z3 z4; have FQ := FR.out.put2 (by omega) (by omega) HT0 z1 z2 z3 z4; clear FR z1 z2 z3 z4; have FR := FQ; clear FQ))
  exact bodyPost_ret (v := .tuple #[.agg (evA (toR v (v + 1) e)), .int .i64 (toC v (v + 1) e)]) (results_ev Tryd.results7 _ _ _ _ _ rfl rfl FR.out.2.1) rfl ⟨rfl, FR.out.2.2.1⟩
end Go.Proofs.YtbgdkpkeghnmmaaDoor
