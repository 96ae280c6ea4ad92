/- A slice of bytes cut at its head, by a law: whatever its address, nil too. -/
import Derived.Test.YtpjikkhcimghaaaDoorAid
import Derived.Test.YtpjikkhcimghaaaDoorRows
namespace Go.Proofs.YtpjikkhcimghaaaDoor
open Go.ChangeShapes Go.WideShapes Go.ChangeAt Go.RowKit
set_option linter.unusedVariables false
theorem bytes_cut {w : World} {a : Option Addr} {l : List Nat} (h : Bytes w a l) (i cap : Nat) (hi : i ≤ l.length) (hc : l.length ≤ cap) : Bytes w (if cap = i then a else a.map (·.add (i * 1))) (l.drop i) := by
  by_cases hci : cap = i
  · rw [if_pos hci, List.drop_of_length_le (by omega)]
    exact Bytes.none _ _
  · rw [if_neg hci]
    rcases h.2 with rfl | ⟨b, off, rfl, hlt, hcell⟩
    · rw [List.drop_nil]
      exact Bytes.none _ _
    · have e : (⟨b, off, none⟩ : Addr).add (i * 1) = ⟨b, off + i, none⟩ := by rw [Nat.mul_one]; simp [Addr.add]
      rw [Option.map_some, e]
      exact h.drop i
theorem slice_under : Tryd.prog.underlying 22 = some (.slice (Tryd.prog.elem 22)) := by kernel_rfl
theorem slice_size (w : World) : (sizeOf (Tryd.prog.elem 22)).run Tryd.prog w = .ok 1 w := by kernel_rfl
theorem at_slice {ops : Array Oper} {rest : List Oper} {a : Act} {w : World} {Q : Exit → Act → World → Prop} {dst : Option Tmp} {ty : TypeId} {pos : String} {after : Array Edge} {s lo : Operand}
    (h : wpList Tryd.prog ops Q (⟨dst, .slice 22 s (some lo) none none, ty, pos, after, none⟩ :: rest) a w) : wpList Tryd.prog ops Q (⟨dst, .slice 22 s (some lo) none none, ty, pos, after, none⟩ :: rest) a w := h
theorem wpList_slice_l {ops : Array Oper} {rest : List Oper} {o : Oper} {a : Act} {w : World} {Q : Exit → Act → World → Prop} (hgd : o.guard = none) (s lo : Operand) (ho : o.op = .slice 22 s (some lo) none none)
    {A : Option Addr} {n cap i : Nat} {l : List Nat} (hs : a.eval s = .slice A n cap) (hlo : a.eval lo = .int .i64 (i : Int)) (hi : i ≤ n) (hn : n ≤ cap) (hl : l.length = n) (hb : Bytes w A l)
    (h : ∀ x, Bytes w x (l.drop i) → wpList Tryd.prog ops Q rest (a.put o.dst (.slice x (n - i) (cap - i))) w) : wpList Tryd.prog ops Q (o :: rest) a w :=
  wpList_plain hgd fun _ hK => by
    have hrun := run_slice_l (P := Tryd.prog) w 22 A n cap slice_under .i64 (i : Int) (by omega) (by omega)
    unfold Oper.wp execOp
    simp only [ho, hs, hlo, Option.map_some, Option.map_none, Sem.run_bind, Sem.run_pure, Result.andThen_ok, run_sliceAt_slice (P := Tryd.prog) w 22 _ _ _ _ slice_under, hrun, slice_size, sliced, Int.toNat_natCast]
    exact hK _ _ (h _ (bytes_cut hb i cap (by omega) (by omega)))
end Go.Proofs.YtpjikkhcimghaaaDoor
