/- The library's table of powers and the sentinels, as the row lists them, lie in memory when the call begins. -/
import Derived.Test.YtdjldbhglaohkaaDoorCards
import Derived.Test.YtdjldbhglaohkaaDoorTie
import Derived.Test.YtdjldbhglaohkaaDoorSenA
import Derived.Test.YtdjldbhglaohkaaDoorNm1
import Derived.Deep.DeepHandedRow
import Derived.Lib.LaidTab
import Derived.LaidLaws
namespace Go.Proofs.YtdjldbhglaohkaaDoor
open Go.ChangeShapes Go.WideShapes Go.ChangeAt Go.RowKit
theorem gPow : Tryd.prog.globalNamed "internal/strconv.uint64pow10" = some 42 := by kernel_rfl
theorem gPowType : (Tryd.prog.globals[42]?).map (·.type) = some 50 := by kernel_rfl
theorem powData : (Rows.laid_internal_strconv_uint64pow10 : DataW Unit) = Lib.tabData .u64 Lib.pow10Tab := by kernel_rfl
theorem cellsPow : Tryd.prog.cellsOf 50 = 20 := by kernel_rfl
theorem cellsU64 : Tryd.prog.cellsOf 27 = 1 := by kernel_rfl
theorem pow_of_varsS {W : World} {rest : List (String × DataW Unit)} {ps : List MemPlace} (h : DataW.LaidVars Tryd.prog W (("math/bits.deBruijn32tab", Rows.laid_math_bits_deBruijn32tab) :: ("math/bits.deBruijn64tab", Rows.laid_math_bits_deBruijn64tab) :: ("internal/strconv.uint64pow10", Rows.laid_internal_strconv_uint64pow10) :: rest) ps) :
    Pow W ∧ ∃ q, DataW.LaidVars Tryd.prog W rest q ∧ q.Sublist ps := by
  obtain ⟨g1, t1, cs1, f1, p1, q1, _, _, _, _, h2, rfl⟩ := h
  obtain ⟨g2, t2, cs2, f2, p2, q2, _, _, _, _, h3, rfl⟩ := h2
  obtain ⟨g3, t3, cs3, f3, p3, q3, hg3, ht3, hv3, hd3, h4, rfl⟩ := h3
  obtain rfl := Option.some.inj (gPow.symm.trans hg3)
  obtain rfl := Option.some.inj (gPowType.symm.trans ht3)
  rw [powData] at hd3
  refine ⟨?_, q3, h4, (((List.sublist_append_right _ _).trans (List.sublist_append_right _ _)).trans (List.sublist_append_right _ _))⟩
  unfold Pow Lib.TabIs
  rw [hv3, ← Lib.cells_of_tab Tryd.underlying50 Tryd.underlying27 cellsU64 cellsPow hd3]
def Psn (W : World) : Prop := Pow W ∧ ∃ pa, Sen W pa
theorem psn_of {W : World} (h : laidMetH Tryd.prog (("math/bits.deBruijn32tab", Rows.laid_math_bits_deBruijn32tab) :: ("math/bits.deBruijn64tab", Rows.laid_math_bits_deBruijn64tab) :: ("internal/strconv.uint64pow10", Rows.laid_internal_strconv_uint64pow10) :: laidOf sents) W) : Psn W := by
  rw [MakeChecks.laidMetH_plain _ _ _ (by kernel_rfl)] at h
  obtain ⟨ps, hv, hnd, hrows⟩ := h
  obtain ⟨h1, q, hq, hsub⟩ := pow_of_varsS hv
  exact ⟨h1, sen_of ⟨q, hq, hnd.sublist hsub, fun b off hm => hrows b off (hsub.subset hm)⟩⟩
end Go.Proofs.YtdjldbhglaohkaaDoor
