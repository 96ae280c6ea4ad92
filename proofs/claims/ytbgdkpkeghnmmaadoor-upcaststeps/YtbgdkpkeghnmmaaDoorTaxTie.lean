/- The table of taxes, as the rows list it, lies in memory when the call begins. -/
import Derived.Test.YtbgdkpkeghnmmaaDoorCards
import Derived.Test.YtbgdkpkeghnmmaaDoorTie
import Derived.Test.YtbgdkpkeghnmmaaDoorChain
import Derived.Deep.DeepHandedRow
import Derived.Lib.LaidTab
namespace Go.Proofs.YtbgdkpkeghnmmaaDoor
open Go.ChangeShapes Go.WideShapes Go.ChangeAt Go.RowKit
theorem gTab : Tryd.prog.globalNamed "daybook/upcast.taxes" = some 0 := by kernel_rfl
theorem gTabType : (Tryd.prog.globals[0]?).map (·.type) = some 52 := by kernel_rfl
theorem cellsTab : Tryd.prog.cellsOf 52 = 4 := by kernel_rfl
theorem cellsInt : Tryd.prog.cellsOf 3 = 1 := by kernel_rfl
theorem tax_of {W : World} (h : laidMetH Tryd.prog [("daybook/upcast.taxes", Rows.laid_daybook_upcast_taxes)] W) : Tax W := by
  have ht : Lib.TabIs Tryd.prog W "daybook/upcast.taxes" .i64 [0, 1900, 2000, 700] :=
    Lib.tabIs_of_head (rest := []) gTab gTabType Tryd.underlying52 Tryd.underlying3 cellsInt cellsTab h
  have hc := fun i (hi : i < 4) => ht.cell gTab i hi
  exact ⟨World.block_lt_of_cell? _ _ (hc 0 (by decide)), hc 0 (by decide), hc 1 (by decide), hc 2 (by decide), hc 3 (by decide)⟩
end Go.Proofs.YtbgdkpkeghnmmaaDoor
