/- The row's list of variables lays the sentinels, and the handle of type error. -/
import Derived.Test.YtpjcmfoamdiohaaDoorSenTie
import Derived.LaidHandle
import Derived.LaidSub
namespace Go.Proofs.YtpjcmfoamdiohaaDoor
open Go.ChangeShapes Go.WideShapes Go.ChangeAt Go.RowKit
def handleD : String × DataW Unit := ("errors.errorType", Rows.laid_errors_errorType)
theorem Tryd.et : Tryd.prog.globalNamed "errors.errorType" = some 42 := by kernel_rfl
theorem Tryd.rt : (Tryd.prog.cutTypes.find? (·.1 == "internal/reflectlite.rtype")).map (·.2) = some 65 := by kernel_rfl
theorem Tryd.oneRow : ((List.range Tryd.prog.types.size).filter fun t => Tryd.prog.rowNamed t [101, 114, 114, 111, 114]) = [30] := by kernel_rfl
theorem senH_of_row {W : World} (h : laidMetH Tryd.prog (handleD :: laidOf sents) W) : ∃ pa, Sen W pa ∧ W.cell? ⟨42, 0, none⟩ = some (.iface 65 (.agg #[.pointer (some ⟨46, 30, none⟩)])) := by
  obtain ⟨h1, h2⟩ := laidMetH_iff.1 h
  have e1 : ((handleD :: laidOf sents).filter fun x => x.2.handleName?.isNone) = laidOf sents := by kernel_rfl
  have e2 : ((handleD :: laidOf sents).filter fun x => x.2.handleName?.isSome) = [handleD] := by kernel_rfl
  rw [e1] at h1
  rw [e2] at h2
  obtain ⟨pa, hs⟩ := sen_of h1
  refine ⟨pa, hs, ?_⟩
  have hf : handleD.2.funcsIn? = none := by kernel_rfl
  have h3 := h2 handleD (List.mem_singleton.2 rfl)
  rw [hf] at h3
  obtain ⟨name, u, ty, e1, e2, e3, e4, e5⟩ := h3
  have en : name = [101, 114, 114, 111, 114] := (Option.some.inj e1).symm
  subst en
  obtain rfl := Option.some.inj (Tryd.rt.symm.trans e2)
  have hm : ty ∈ (List.range Tryd.prog.types.size).filter fun t => Tryd.prog.rowNamed t [101, 114, 114, 111, 114] := List.mem_filter.2 ⟨List.mem_range.2 e3, e4⟩
  rw [Tryd.oneRow] at hm
  obtain rfl := List.mem_singleton.1 hm
  have hh : typeHandle Tryd.prog 30 = .pointer (some ⟨46, 30, none⟩) := by kernel_rfl
  rw [hh] at e5
  simpa using World.var?_cell Tryd.et e5 0
end Go.Proofs.YtpjcmfoamdiohaaDoor
