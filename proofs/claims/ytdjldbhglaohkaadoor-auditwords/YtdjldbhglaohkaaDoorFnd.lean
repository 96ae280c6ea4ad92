/- A finding by value, opened: its three fields, each one cell. -/
import Derived.Test.YtdjldbhglaohkaaDoorEv
import Derived.Test.YtdjldbhglaohkaaDoorAid
import Derived.Test.YtdjldbhglaohkaaDoorRows
import Derived.Laws.ResultCell
import Derived.SizedLaws
namespace Go.Proofs.YtdjldbhglaohkaaDoor
open Go.ChangeShapes Go.WideShapes Go.ChangeAt Go.RowKit Go.Deep
structure Fd where
  name : ByteArray
  at_ : Int
  code : Int
structure Fd.Fit (e : Fd) : Prop where
  name : e.name.size ≤ maxLen
  at_ : inW e.at_
  code : inW e.code
def fdA (e : Fd) : Array Value := #[.string e.name, .int .i64 e.at_, .int .i64 e.code]
theorem array3 {α : Type} {cs : Array α} (h : cs.size = 3) : ∃ c0 c1 c2, cs = #[c0, c1, c2] := by
  obtain ⟨l⟩ := cs
  match l, h with
  | [c0, c1, c2], _ => exact ⟨c0, c1, c2, rfl⟩
section
variable {H : Type} {enc : TypeId × Value → H} {P : Program} {w : World} {base : Nat} {spare : Nat → Bool} {held : Bool}
theorem struct3 {t : TypeId} {f0 f1 f2 : Field} {fuel : Nat} {c0 c1 c2 : Value} {x : DataW H × List MemPlace} (ht : P.underlying t = some (.struct #[f0, f1, f2])) (hone : oneCellFields P #[f0, f1, f2] = true)
    (h : DataW.trod enc P w base spare held fuel t [c0, c1, c2] = some x) :
    ∃ y0 y1 y2 n, x = (.agg [y0.1, y1.1, y2.1], y0.2 ++ (y1.2 ++ y2.2))
      ∧ DataW.trod enc P w base spare held n f0.type [c0] = some y0 ∧ DataW.trod enc P w base spare held n f1.type [c1] = some y1 ∧ DataW.trod enc P w base spare held n f2.type [c2] = some y2 := by
  obtain ⟨xs, n, _, rfl, _, hlen, hf⟩ := DataW.trod_struct ht h
  obtain ⟨o0, k0⟩ := hone_of hone 0 f0 rfl
  obtain ⟨o1, k1⟩ := hone_of hone 1 f1 rfl
  obtain ⟨o2, k2⟩ := hone_of hone 2 f2 rfl
  match xs, hlen with
  | [y0, y1, y2], _ =>
    exact ⟨y0, y1, y2, n, by simp, by simpa [o0, k0] using hf 0 f0 rfl, by simpa [o1, k1] using hf 1 f1 rfl, by simpa [o2, k2] using hf 2 f2 rfl⟩
theorem open_finding {r : Reach} {b0 : Nat} {t : TypeId} {f0 f1 f2 : Field} {v : Value} {d : DataW H} {p : List MemPlace} (hs : P.underlying t = some (.struct #[f0, f1, f2])) (hone : oneCellFields P #[f0, f1, f2] = true) (hC : P.cellsOf t = 3)
    (u0 : P.underlying f0.type = some .string) (u1 : P.underlying f1.type = some (.int .i64)) (u2 : P.underlying f2.type = some (.int .i64))
    (hv : Value.okWide P w r b0 t v) (h : DataW.Trod enc P w base spare held t v d p) :
    ∃ e : Fd, v = .agg (fdA e) ∧ p = [] ∧ e.Fit ∧ d = .agg [.lit (.string e.name.data.toList), .lit (.int .i64 e.at_), .lit (.int .i64 e.code)] := by
  obtain ⟨cs, rfl, hsz⟩ := okWide_struct hs hv
  obtain ⟨c0, c1, c2, rfl⟩ := array3 (hsz.trans hC)
  obtain ⟨fuel, hf⟩ := h
  obtain ⟨y0, y1, y2, n, hx, h0, h1, h2⟩ := struct3 hs hone (by simpa [Value.cells] using hf)
  obtain ⟨a0, rfl, rfl, w0⟩ := str_of u0 h0
  obtain ⟨a1, rfl, rfl, w1⟩ := int_of u1 h1
  obtain ⟨a2, rfl, rfl, w2⟩ := int_of u2 h2
  simp only [Prod.mk.injEq] at hx
  exact ⟨⟨a0, a1, a2⟩, rfl, by simpa using hx.2, ⟨w0, w1, w2⟩, hx.1⟩
end
theorem sized_finding {H : Type} {ts : List TypeId} {ds : List (DataW H)} (hsz : (DataW.weightsEach Tryd.prog ts ds).all (· ≤ reachBytes) = true) {j : Nat} {b : List UInt8} {x y : DataW H} (ht : ts[j]? = some 24) (hd : ds[j]? = some (.agg [.lit (.string b), x, y])) : b.length ≤ 140737488351232 := by
  have hw : b.length ∈ (DataW.agg [.lit (.string b), x, y] : DataW H).weights Tryd.prog 24 := by
    simp only [DataW.weights, Tryd.underlying24, DataW.weightsEach, List.mem_append, List.mem_cons, List.map_cons, List.map_nil]
    simp
  have := of_decide_eq_true (List.all_eq_true.1 hsz _ (DataW.weights_mem_each ht hd _ hw))
  simpa [reachBytes] using this
def FdAt (w : World) (b : Nat) (e : Fd) : Prop := w.heap[b]? = some (.cells (fdA e) 24)
theorem FdAt.lt {w : World} {b : Nat} {e : Fd} (h : FdAt w b e) : b < w.heap.size := by
  by_cases hh : b < w.heap.size
  · exact hh
  · unfold FdAt at h; rw [Array.getElem?_eq_none (by omega)] at h; cases h
theorem FdAt.after {w w' : World} {b : Nat} {e : Fd} (h : FdAt w b e) (hb : Below w.heap.size w w') : FdAt w' b e := (hb.block b h.lt).trans h
theorem FdAt.cell {w : World} {b : Nat} {e : Fd} (h : FdAt w b e) (i : Nat) (x : Value) (hx : (fdA e)[i]? = some x) : w.cell? ⟨b, i, none⟩ = some x := by
  rw [cell_of_row w b i (fdA e) 24 (0, 0) h]; exact hx
theorem FdAt.new (w : World) (e : Fd) : FdAt (w.alloc (.cells (fdA e) 24)) w.heap.size e := heap_alloc_new w _
theorem Tryd.infoFd : (Tryd.prog.info? 24).map (·.size) = some 3 := by kernel_rfl
theorem FdAt.load {w : World} {b : Nat} {e : Fd} (h : FdAt w b e) : (Instr.loadAt 24 (.pointer (some ⟨b, 0, none⟩))).run Tryd.prog w = .ok (.agg (fdA e)) w := by
  have hl : (Go.loadVar 24 ⟨b, 0, none⟩).run Tryd.prog w = .ok (.agg (fdA e)) w := run_loadVar_row _ _ _ _ _ _ _ h Tryd.underlying24 rfl Tryd.infoFd
  simp only [Instr.loadAt, Instr.sureAddr, Sem.run_bind, Sem.run_pure, Result.andThen_ok, hl]
theorem exec_load_fd {o : Oper} {a : Act} {w : World} (x : Operand) (ho : o.op = .load 24 x) {b : Nat} {e : Fd} (hx : a.eval x = .pointer (some ⟨b, 0, none⟩)) (hL : FdAt w b e) : (execOp a.eval o).run Tryd.prog w = .ok (.value (.agg (fdA e))) w := by
  unfold execOp
  simp only [ho, hx, Sem.run_bind, Sem.run_pure, Result.andThen_ok, hL.load]
end Go.Proofs.YtdjldbhglaohkaaDoor
