/- A text, as a list of its bytes. -/
import Derived.Test.YtlnhhgmdajbepaaAid
namespace Go.Proofs.Ytlnhhgmdajbepaa
abbrev bs (l : List UInt8) : ByteArray := ⟨l.toArray⟩
end Go.Proofs.Ytlnhhgmdajbepaa
