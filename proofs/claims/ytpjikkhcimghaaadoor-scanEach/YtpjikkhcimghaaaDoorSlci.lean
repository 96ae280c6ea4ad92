/- A slice of bytes cut at its head, in a walk inside a fence: whatever its address, nil too. -/
import Derived.Test.YtpjikkhcimghaaaDoorSlc
import Derived.OwnWalkIn
namespace Go.Proofs.YtpjikkhcimghaaaDoor
open Go.ChangeShapes Go.WideShapes Go.ChangeAt Go.RowKit
set_option linter.unusedVariables false
theorem at_sliceI {F : Fence} {n : Nat} {ops : Array Oper} {rest : List Oper} {a : Act} {w : World} {Q : Exit → Act → World → Prop} {dst : Option Tmp} {ty : TypeId} {pos : String} {after : Array Edge} {s lo : Operand}
    (h : wpListIn F n Tryd.prog ops Q (⟨dst, .slice 22 s (some lo) none none, ty, pos, after, none⟩ :: rest) a w) : wpListIn F n Tryd.prog ops Q (⟨dst, .slice 22 s (some lo) none none, ty, pos, after, none⟩ :: rest) a w := h
theorem wpListIn_slice_l {F : Fence} {n' : Nat} {ops : Array Oper} {rest : List Oper} {o : Oper} {a : Act} {w : World} {Q : Exit → Act → World → Prop} (hgd : o.guard = none) (s lo : Operand) (ho : o.op = .slice 22 s (some lo) none none)
    {A : Option Addr} {n cap i : Nat} {l : List Nat} (hs : a.eval s = .slice A n cap) (hlo : a.eval lo = .int .i64 (i : Int)) (hi : i ≤ n) (hn : n ≤ cap) (hl : l.length = n) (hb : Bytes w A l)
    (h : ∀ x, Bytes w x (l.drop i) → wpListIn F n' Tryd.prog ops Q rest (a.put o.dst (.slice x (n - i) (cap - i))) w) : wpListIn F n' Tryd.prog ops Q (o :: rest) a w := by
  refine wpListIn_plain hgd fun K hK => ?_
  have hrun := run_slice_l (P := Tryd.prog) w 22 A n cap slice_under .i64 (i : Int) (by omega) (by omega)
  unfold Oper.wpIn
  refine ⟨?_, ?_⟩
  · simp [Oper.about, ho]
  · rw [Oper.semAt_plain F _ _ (by rw [ho]; intro c hc'; cases hc')]
    unfold execOp
    simp only [ho, hs, hlo, Option.map_some, Option.map_none, Sem.run_bind, Sem.run_pure, Result.andThen_ok, run_sliceAt_slice (P := Tryd.prog) w 22 _ _ _ _ slice_under, hrun, slice_size, sliced, Int.toNat_natCast]
    exact hK _ _ (h _ (bytes_cut hb i cap (by omega) (by omega)))
theorem wpListIn_slice_l2 {F : Fence} {n' : Nat} {ops : Array Oper} {rest : List Oper} {o : Oper} {a : Act} {w : World} {Q : Exit → Act → World → Prop} (hgd : o.guard = none) (s lo : Operand) (ho : o.op = .slice 22 s (some lo) none none)
    {A : Option Addr} {n cap i : Nat} {l : List Nat} (hs : a.eval s = .slice A n cap) (hlo : a.eval lo = .int .i64 (i : Int)) (hi : i ≤ n) (hn : n ≤ cap) (hl : l.length = n)
    (h : ∀ x, (∀ w0, Bytes w0 A l → Bytes w0 x (l.drop i)) → wpListIn F n' Tryd.prog ops Q rest (a.put o.dst (.slice x (n - i) (cap - i))) w) : wpListIn F n' Tryd.prog ops Q (o :: rest) a w := by
  refine wpListIn_plain hgd fun K hK => ?_
  have hrun := run_slice_l (P := Tryd.prog) w 22 A n cap slice_under .i64 (i : Int) (by omega) (by omega)
  unfold Oper.wpIn
  refine ⟨?_, ?_⟩
  · simp [Oper.about, ho]
  · rw [Oper.semAt_plain F _ _ (by rw [ho]; intro c hc'; cases hc')]
    unfold execOp
    simp only [ho, hs, hlo, Option.map_some, Option.map_none, Sem.run_bind, Sem.run_pure, Result.andThen_ok, run_sliceAt_slice (P := Tryd.prog) w 22 _ _ _ _ slice_under, hrun, slice_size, sliced, Int.toNat_natCast]
    exact hK _ _ (h _ (fun w0 hb => bytes_cut hb i cap (by omega) (by omega)))
end Go.Proofs.YtpjikkhcimghaaaDoor
