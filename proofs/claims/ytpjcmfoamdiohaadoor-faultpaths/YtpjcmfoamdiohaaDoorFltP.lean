/- errors.As for a *fault.Fault: the model's entries, as facts. -/
import Derived.Test.YtpjcmfoamdiohaaDoorFltD
namespace Go.Proofs.YtpjcmfoamdiohaaDoor
open Go.ChangeShapes Go.WideShapes Go.ChangeAt Go.RowKit
open Go.Extern.Stop Go.Stop Go.Extern
set_option linter.unusedVariables false
abbrev hdl (t : Nat) : Value := .agg #[.pointer (some ⟨46, t, none⟩)]
abbrev rty (t : Nat) : Value := .iface 65 (hdl t)
/-- a reflectlite.Value -/
abbrev rval (t : Nat) (a : Addr) (f : Int) : Value := .agg #[.pointer (some ⟨46, t, none⟩), .pointer (some a), .int .u64 f]
theorem Tryd.x1 (p : Addr) (w : World) : (callFunc 30 #[.iface 75 (.pointer (some p))]).run Tryd.prog w = .ok (.value (rval 75 ⟨w.heap.size, 0, none⟩ 150)) (w.alloc (.cells #[.pointer (some p)] 75)) := by kernel_rfl
theorem Tryd.x1f (p : Addr) (w : World) : (callFunc 30 #[.iface 49 (.pointer (some p))]).run Tryd.prog w = .ok (.value (rval 49 ⟨w.heap.size, 0, none⟩ 150)) (w.alloc (.cells #[.pointer (some p)] 49)) := by kernel_rfl
theorem Tryd.x2 (a : Addr) (w : World) : (callFunc 31 #[rval 75 a 150]).run Tryd.prog w = .ok (.value (rty 75)) w := by kernel_rfl
theorem Tryd.x4 (v : Value) (w : World) : (Go.method 244 65 v "Elem").run Tryd.prog w = .ok (80, v) w := by kernel_rfl
theorem Tryd.x5 (v : Value) (w : World) : (Go.method 244 65 v "Implements").run Tryd.prog w = .ok (81, v) w := by kernel_rfl
theorem Tryd.x6 (v : Value) (w : World) : (Go.method 244 65 v "AssignableTo").run Tryd.prog w = .ok (78, v) w := by kernel_rfl
theorem Tryd.x7 (w : World) : (callFunc 80 #[hdl 75]).run Tryd.prog w = .ok (.value (rty 49)) w := by kernel_rfl
theorem Tryd.x8 (w : World) : (callFunc 81 #[hdl 49, rty 30]).run Tryd.prog w = .ok (.value (.bool true)) w := by kernel_rfl
theorem Tryd.x9 (w : World) : (callFunc 78 #[hdl 49, rty 49]).run Tryd.prog w = .ok (.value (.bool true)) w := by kernel_rfl
theorem Tryd.x10 (w : World) : (callFunc 78 #[hdl 59, rty 49]).run Tryd.prog w = .ok (.value (.bool false)) w := by kernel_rfl
theorem Tryd.x11 (v : Value) (w : World) : (callFunc 20 #[.iface 49 v]).run Tryd.prog w = .ok (.value (rty 49)) w := by kernel_rfl
theorem Tryd.x12 (w : World) : (Go.method 244 65 (hdl 75) "Kind").run Tryd.prog w = .ok (50, .pointer (some ⟨46, 75, none⟩)) w := by kernel_rfl
theorem Tryd.x13 (w : World) : (Go.method 244 65 (hdl 49) "Kind").run Tryd.prog w = .ok (50, .pointer (some ⟨46, 49, none⟩)) w := by kernel_rfl
theorem Tryd.x14 (w : World) : (callFunc 50 #[.pointer (some ⟨46, 75, none⟩)]).run Tryd.prog w = .ok (.value (.int .u8 22)) w := by kernel_rfl
theorem Tryd.x15 (w : World) : (callFunc 50 #[.pointer (some ⟨46, 49, none⟩)]).run Tryd.prog w = .ok (.value (.int .u8 22)) w := by kernel_rfl
end Go.Proofs.YtpjcmfoamdiohaaDoor
