/- What is wrong with an event, as a number: of a version v whose bounds are these. -/
import Derived.Test.YtbgdkpkeghnmmaaBndA
import Derived.Test.YtbgdkpkeghnmmaaBndB
import Derived.Test.YtbgdkpkeghnmmaaBndC
import Derived.Test.YtbgdkpkeghnmmaaOwn
namespace Go.Proofs.Ytbgdkpkeghnmmaa
open Go.RowKit
def chkV (v l m last k o i q p c t : Int) (wh : ByteArray) (s : Int) (n : ByteArray) : Int :=
  if k < 1 ∨ last < k then 31 else if 16 < wh.size ∨ 120 < n.size then 24 else if bnd l m o i q p c t wh s = true ∧ ownB v c t wh s n = true then 0 else 32
end Go.Proofs.Ytbgdkpkeghnmmaa
