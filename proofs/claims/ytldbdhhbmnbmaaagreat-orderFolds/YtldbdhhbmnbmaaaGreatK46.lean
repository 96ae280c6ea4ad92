/- Own texts, joined: RSum. -/
import Derived.Test.YtldbdhhbmnbmaaaGreatK45
import Derived.Test.YtldbdhhbmnbmaaaGreatK43
import Derived.Deep.RegionWith
namespace Go.Proofs.YtldbdhhbmnbmaaaGreat
open Go.ChangeShapes Go.WideShapes Go.ChangeAt Go.RowKit
theorem lay2z (w : World) (Z : Array Value) (hZ : LA false (fun _ => 0) = Z) : LongAt ((w.alloc (.cells Z 79)).alloc (.cells Z 79)) w.heap.size false (fun _ => 0) ∧ LongAt ((w.alloc (.cells Z 79)).alloc (.cells Z 79)) (w.heap.size + 1) false (fun _ => 0) ∧ Below w.heap.size w ((w.alloc (.cells Z 79)).alloc (.cells Z 79)) := by
  subst hZ
  refine ⟨?_, ?_, bel2 _ _ _⟩ <;> (unfold LongAt; simp only [World.alloc, Array.getElem?_push, Array.size_push]; simp)
theorem step_load_long {ops : Array Oper} {o : Oper} {a : Act} {w : World} {K : Act → World → Prop} {Q : Exit → Act → World → Prop} {E : Prop} (hg : o.guard = none) (x : Operand) (ho : o.op = .load 79 x)
    {b : Nat} {s : Bool} {d : Nat → Nat} (hL : LongAt w b s d) (hx : a.eval x = .pointer (some ⟨b, 0, none⟩)) (hK : K (a.put o.dst (.agg (LA s d))) w) :
    if Region.wanted o (yielded ops a.tmps) = true then Oper.wp Tryz.prog o a w K Q else E := by
  have hw : Region.wanted o (yielded ops a.tmps) = true := by simp [Region.wanted, hg]
  rw [if_pos hw]
  unfold Oper.wp execOp
  simp only [ho, hx, Sem.run_bind, Sem.run_pure, Result.andThen_ok, hL.load]
  exact hK
end Go.Proofs.YtldbdhhbmnbmaaaGreat
