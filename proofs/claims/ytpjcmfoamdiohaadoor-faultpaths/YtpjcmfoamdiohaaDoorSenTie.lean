/- The row's list of variables lays the sentinels. -/
import Derived.Test.YtpjcmfoamdiohaaDoorCards
import Derived.Test.YtpjcmfoamdiohaaDoorTie
import Derived.Test.YtpjcmfoamdiohaaDoorSen
import Derived.Deep.DeepHandedRow
import Derived.Lib.LaidTab
namespace Go.Proofs.YtpjcmfoamdiohaaDoor
open Go.ChangeShapes Go.WideShapes Go.ChangeAt Go.RowKit
theorem sen_of_row {W : World} (h : laidMetH Tryd.prog (laidOf sents) W) : ∃ pa, Sen W pa := by
  rw [MakeChecks.laidMetH_plain _ _ _ (by kernel_rfl)] at h
  exact sen_of h
end Go.Proofs.YtpjcmfoamdiohaaDoor
