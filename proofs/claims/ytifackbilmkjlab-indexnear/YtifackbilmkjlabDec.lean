/- What varint.Decode answers. -/
import Derived.Test.YtifackbilmkjlabRows
import Derived.Test.YtifackbilmkjlabAid
namespace Go.Proofs.Ytifackbilmkjlab
open Go.ChangeShapes Go.WideShapes Go.ChangeAt Go.RowKit
end Go.Proofs.Ytifackbilmkjlab
