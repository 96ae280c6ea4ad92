/- Guards: a load or a store of that type stands next. -/
import Derived.Test.YtblfmfanfpohbaaGreatRows
import Derived.Test.YtblfmfanfpohbaaGreatAid
namespace Go.Proofs.YtblfmfanfpohbaaGreat
open Go.ChangeShapes Go.WideShapes Go.ChangeAt Go.RowKit
theorem guard_load {ops : Array Oper} {rest : List Oper} {a : Act} {w : World} {Q : Exit → Act → World → Prop} {dst : Option Tmp} {ty : TypeId} {pos : String} {after : Array Edge} {x : Operand} (t : TypeId)
    (h : wpList Tryz.prog ops Q (⟨dst, .load t x, ty, pos, after, none⟩ :: rest) a w) : wpList Tryz.prog ops Q (⟨dst, .load t x, ty, pos, after, none⟩ :: rest) a w := h
theorem guard_store {ops : Array Oper} {rest : List Oper} {a : Act} {w : World} {Q : Exit → Act → World → Prop} {dst : Option Tmp} {ty : TypeId} {pos : String} {after : Array Edge} {x y : Operand} (t : TypeId)
    (h : wpList Tryz.prog ops Q (⟨dst, .store t x y, ty, pos, after, none⟩ :: rest) a w) : wpList Tryz.prog ops Q (⟨dst, .store t x y, ty, pos, after, none⟩ :: rest) a w := h
end Go.Proofs.YtblfmfanfpohbaaGreat
