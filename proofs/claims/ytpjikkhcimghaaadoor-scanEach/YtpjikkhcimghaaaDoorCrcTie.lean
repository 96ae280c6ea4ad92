/- The table of crc, as the rows list it, lies in memory when the call begins. -/
import Derived.Test.YtpjikkhcimghaaaDoorCards
import Derived.Test.YtpjikkhcimghaaaDoorTie
import Derived.Test.YtpjikkhcimghaaaDoorCrc
import Derived.Deep.DeepHandedRow
import Derived.Lib.LaidTab
namespace Go.Proofs.YtpjikkhcimghaaaDoor
open Go.ChangeShapes Go.WideShapes Go.ChangeAt Go.RowKit
theorem gTab : Tryd.prog.globalNamed "daybook/crc.halves" = some 0 := by kernel_rfl
theorem gTabType : (Tryd.prog.globals[0]?).map (·.type) = some 70 := by kernel_rfl
theorem cellsTab : Tryd.prog.cellsOf 70 = 16 := by kernel_rfl
theorem cellsU32 : Tryd.prog.cellsOf 56 = 1 := by kernel_rfl
theorem tab_of {W : World} (h : laidMetH Tryd.prog [("daybook/crc.halves", Rows.laid_daybook_crc_halves)] W) : Tab W := by
  have ht : Lib.TabIs Tryd.prog W "daybook/crc.halves" .u32 [0, 498536548, 997073096, 651767980, 1994146192, 1802195444, 1303535960, 1342533948, 3988292384, 4027552580, 3604390888, 3412177804, 2607071920, 2262029012, 2685067896, 3183342108] :=
    Lib.tabIs_of_head (rest := []) gTab gTabType Tryd.underlying70 Tryd.underlying56 cellsU32 cellsTab h
  have hc := fun i (hi : i < 16) => ht.cell gTab i hi
  refine ⟨World.block_lt_of_cell? _ _ (hc 0 (by decide)), fun i hi => ?_⟩
  rw [hc i hi]
  exact congrArg (fun n : Int => some (Value.int IntKind.u32 n)) ((by decide : ∀ i : Fin 16, ([0, 498536548, 997073096, 651767980, 1994146192, 1802195444, 1303535960, 1342533948, 3988292384, 4027552580, 3604390888, 3412177804, 2607071920, 2262029012, 2685067896, 3183342108] : List Int).getD i.val 0 = ((tab i.val : Nat) : Int)) ⟨i, hi⟩)
end Go.Proofs.YtpjikkhcimghaaaDoor
