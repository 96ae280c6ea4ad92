/- errors.As for a *fault.Fault: the entries that read and write memory. -/
import Derived.Test.YtpjcmfoamdiohaaDoorFltP
namespace Go.Proofs.YtpjcmfoamdiohaaDoor
open Go.ChangeShapes Go.WideShapes Go.ChangeAt Go.RowKit
open Go.Extern.Stop Go.Stop Go.Extern
set_option linter.unusedVariables false
set_option linter.unusedSimpArgs false
theorem loadPP {w : World} {b : Nat} {v : Value} (h : w.cell? ⟨b, 0, none⟩ = some v) : (Go.loadVar 75 ⟨b, 0, none⟩).run Tryd.prog w = .ok v w := by
  have ha : (isAgg 75).run Tryd.prog w = .ok false w := by kernel_rfl
  simp [go_sem, h, ha]
theorem loadP {w : World} {b : Nat} {v : Value} (h : w.cell? ⟨b, 0, none⟩ = some v) : (Go.loadVar 49 ⟨b, 0, none⟩).run Tryd.prog w = .ok v w := by
  have ha : (isAgg 49).run Tryd.prog w = .ok false w := by kernel_rfl
  simp [go_sem, h, ha]
theorem partsPP (b : Nat) (w : World) : (ReflectliteValue.parts (rval 75 ⟨b, 0, none⟩ 150)).run Tryd.prog w = .ok (some (75, ⟨b, 0, none⟩, 150)) w := by kernel_rfl
theorem partsP (b : Nat) (w : World) : (ReflectliteValue.parts (rval 49 ⟨b, 0, none⟩ 150)).run Tryd.prog w = .ok (some (49, ⟨b, 0, none⟩, 150)) w := by kernel_rfl
theorem partsE (a : Addr) (w : World) : (ReflectliteValue.parts (rval 49 a 406)).run Tryd.prog w = .ok (some (49, a, 406)) w := by kernel_rfl
theorem method_one (z : Sem Value) (f : TypeId → Addr → Nat → Nat → Sem Value) (v : Value) : ReflectliteValue.method z f #[v] = (ReflectliteValue.parts v >>= fun o => match o with | none => z | some (t, a, fl) => f t a fl (fl % 32)) := rfl
theorem Tryd.y1 (b : Nat) (p : Addr) (w : World) (h : w.cell? ⟨b, 0, none⟩ = some (.pointer (some p))) : (callFunc 32 #[rval 75 ⟨b, 0, none⟩ 150]).run Tryd.prog w = .ok (.value (.bool false)) w := by
  rw [run_callFunc_extern (e := ReflectliteValue.method (ReflectliteValue.valueError "reflectlite.Value.IsNil" 0) ReflectliteValue.isNil) Tryd.func32 (by kernel_rfl) (by kernel_rfl) (by kernel_rfl) (by kernel_rfl), method_one]
  simp [ReflectliteValue.isNil, partsPP, loadPP h]
theorem Tryd.y2 (b : Nat) (p : Addr) (w : World) (h : w.cell? ⟨b, 0, none⟩ = some (.pointer (some p))) : (callFunc 34 #[rval 75 ⟨b, 0, none⟩ 150]).run Tryd.prog w = .ok (.value (rval 49 p 406)) w := by
  rw [run_callFunc_extern (e := ReflectliteValue.method (ReflectliteValue.valueError "reflectlite.Value.Elem" 0) ReflectliteValue.elem) Tryd.func34 (by kernel_rfl) (by kernel_rfl) (by kernel_rfl) (by kernel_rfl), method_one]
  have h1 : (Rtype.elem? 75).run Tryd.prog w = .ok (some 49) w := by kernel_rfl
  have h2 : (ReflectliteValue.mk 49 p ReflectliteValue.flagAddr).run Tryd.prog w = .ok (rval 49 p 406) w := by kernel_rfl
  simp [ReflectliteValue.elem, partsPP, loadPP h, h1, h2]
theorem Tryd.y3 (p b : Nat) (o : Option Addr) (q : Addr) (w : World) (h1 : w.cell? ⟨p, 0, none⟩ = some (.pointer o)) (h2 : w.cell? ⟨b, 0, none⟩ = some (.pointer (some q))) (hz : w.frozen? ⟨p, 0, none⟩ = false) :
    (callFunc 35 #[rval 49 ⟨p, 0, none⟩ 406, rval 49 ⟨b, 0, none⟩ 150]).run Tryd.prog w = .ok (.value (.tuple #[])) (w.setCell ⟨p, 0, none⟩ (.pointer (some q))) := by
  rw [run_callFunc_extern (e := ReflectliteValue.set) Tryd.func35 (by kernel_rfl) (by kernel_rfl) (by kernel_rfl) (by kernel_rfl)]
  have h3 : (Rtype.directlyAssignable 49 49).run Tryd.prog w = .ok true w := by kernel_rfl
  refine Eq.trans (congrArg (fun s : Sem Value => (Sem.run Tryd.prog s w).andThen fun v w' => Result.ok (Next.value v) w') (show ReflectliteValue.set #[rval 49 ⟨p, 0, none⟩ 406, rval 49 ⟨b, 0, none⟩ 150] = (ReflectliteValue.parts (rval 49 ⟨p, 0, none⟩ 406) >>= fun o => ReflectliteValue.parts (rval 49 ⟨b, 0, none⟩ 150) >>= _) from rfl)) ?_
  have hs : (Go.storeVar 49 ⟨p, 0, none⟩ (.pointer (some q))).run Tryd.prog w = .ok () (w.setCell ⟨p, 0, none⟩ (.pointer (some q))) := by
    have ha : (isAgg 49).run Tryd.prog w = .ok false w := by kernel_rfl
    simp [go_sem, h1, hz, ha]
  simp [partsE, partsP, loadP h2, h3, ReflectliteValue.flagAddr, hs]
end Go.Proofs.YtpjcmfoamdiohaaDoor
