/-
  No cell of these rows narrows 'for every input' (looked for: loops, veiled, ifaces, maps, wideKeys, modest, calm, conditions, laid).
  DERIVED. THE GIVEN ROWS OF THIS SEAT. 6 by the template 'for every input the law returns true; each argument reads behind the call as it read before'; 0 by the template 'total and deterministic' (their statements: YtdfknehdnkmlgaaTotals.lean).
  GIVEN WITH THE SEED: the statements are not yours to turn. If you find one false, say at which input.
  Laid BY PROGRAM, IN A SANDBOX (cutbox-rows.mjs): the forced cells as the released guide's own fill.sh prints them over the translation d63ee81e4db7ff9b… (all of the seat's roots in one cut). By AI agents, Wed Nov 11 2026. No macro, syntax, notation, axiom, sorry.
-/
import Derived.Test.YtdfknehdnkmlgaaChecked
import GoSem.Claim
import GoSem.ClaimJoined
import GoSem.ClaimMapViews
import Derived.JoinedTies
import Derived.KernelRfl
namespace Go.Proofs.Ytdfknehdnkmlgaa
/- THE CELL 'sum', in the pinned program and in every row, IS THE sha256 OF THE DUMP (.gsa) THAT YtdfknehdnkmlgaaProg.lean LOADS. Nothing in Lean hashes anything: it is a label: what it is worth is what the hold of that sum in a sandbox is worth. -/
noncomputable def Try.pinned : Pinned := { name := "ytdfknehdnkmlgaa", sum := "d63ee81e4db7ff9bc9b0dc0f550eeda7c0946a93c8de0b610394f14d5b07b1a9", checked := Try.checked }
namespace Rows
def none {H : Type} : Left H := { results := [], args := [] }

/-- 'daybooklaw05.TlvEncodes': WHATEVER THE INPUT: true; the input reads as it did. -/
def tlvEncodesSpec : ChangeSpec := { name := "tlvEncodes", fn := fun _ => fun
  | [d] => { results := [.lit (.bool true)], args := [d] }
  | _ => none }
def tlvEncodesRow : OpenClaim := { program := "ytdfknehdnkmlgaa", sum := "d63ee81e4db7ff9bc9b0dc0f550eeda7c0946a93c8de0b610394f14d5b07b1a9", func := "daybook/daybooklaw05.TlvEncodes", spec := "tlvEncodes", unfollowed := true, recurses := true, apart := false }
def TlvEncodesSaid : Prop := tlvEncodesRow.holds Try.pinned (OpenSpec.ofChange tlvEncodesSpec)

/-- ITS FALSE NEIGHBOUR: 'it returns false'. Refute it at one input. -/
def tlvEncodesWrong : ChangeSpec := { name := "tlvEncodes", fn := fun _ => fun
  | [d] => { results := [.lit (.bool false)], args := [d] }
  | _ => none }
def TlvEncodesWrongFalsely : Prop := tlvEncodesRow.holds Try.pinned (OpenSpec.ofChange tlvEncodesWrong)

/-- 'daybooklaw05.TlvMust': WHATEVER THE INPUT: true; the input reads as it did. -/
def tlvMustSpec : ChangeSpec := { name := "tlvMust", fn := fun _ => fun
  | [d] => { results := [.lit (.bool true)], args := [d] }
  | _ => none }
def tlvMustRow : OpenClaim := { program := "ytdfknehdnkmlgaa", sum := "d63ee81e4db7ff9bc9b0dc0f550eeda7c0946a93c8de0b610394f14d5b07b1a9", func := "daybook/daybooklaw05.TlvMust", spec := "tlvMust", unfollowed := true, recurses := true, apart := false }
def TlvMustSaid : Prop := tlvMustRow.holds Try.pinned (OpenSpec.ofChange tlvMustSpec)

/-- ITS FALSE NEIGHBOUR: 'it returns false'. Refute it at one input. -/
def tlvMustWrong : ChangeSpec := { name := "tlvMust", fn := fun _ => fun
  | [d] => { results := [.lit (.bool false)], args := [d] }
  | _ => none }
def TlvMustWrongFalsely : Prop := tlvMustRow.holds Try.pinned (OpenSpec.ofChange tlvMustWrong)

/-- 'daybooklaw05.TlvDecodes': WHATEVER THE INPUT: true; the input reads as it did. -/
def tlvDecodesSpec : ChangeSpec := { name := "tlvDecodes", fn := fun _ => fun
  | [d] => { results := [.lit (.bool true)], args := [d] }
  | _ => none }
def tlvDecodesRow : OpenClaim := { program := "ytdfknehdnkmlgaa", sum := "d63ee81e4db7ff9bc9b0dc0f550eeda7c0946a93c8de0b610394f14d5b07b1a9", func := "daybook/daybooklaw05.TlvDecodes", spec := "tlvDecodes", unfollowed := true, recurses := true, apart := false }
def TlvDecodesSaid : Prop := tlvDecodesRow.holds Try.pinned (OpenSpec.ofChange tlvDecodesSpec)

/-- ITS FALSE NEIGHBOUR: 'it returns false'. Refute it at one input. -/
def tlvDecodesWrong : ChangeSpec := { name := "tlvDecodes", fn := fun _ => fun
  | [d] => { results := [.lit (.bool false)], args := [d] }
  | _ => none }
def TlvDecodesWrongFalsely : Prop := tlvDecodesRow.holds Try.pinned (OpenSpec.ofChange tlvDecodesWrong)

/-- 'daybooklaw05.TlvBack': WHATEVER THE INPUT: true; the input reads as it did. -/
def tlvBackSpec : ChangeSpec := { name := "tlvBack", fn := fun _ => fun
  | [d] => { results := [.lit (.bool true)], args := [d] }
  | _ => none }
def tlvBackRow : OpenClaim := { program := "ytdfknehdnkmlgaa", sum := "d63ee81e4db7ff9bc9b0dc0f550eeda7c0946a93c8de0b610394f14d5b07b1a9", func := "daybook/daybooklaw05.TlvBack", spec := "tlvBack", unfollowed := true, recurses := true, apart := false }
def TlvBackSaid : Prop := tlvBackRow.holds Try.pinned (OpenSpec.ofChange tlvBackSpec)

/-- ITS FALSE NEIGHBOUR: 'it returns false'. Refute it at one input. -/
def tlvBackWrong : ChangeSpec := { name := "tlvBack", fn := fun _ => fun
  | [d] => { results := [.lit (.bool false)], args := [d] }
  | _ => none }
def TlvBackWrongFalsely : Prop := tlvBackRow.holds Try.pinned (OpenSpec.ofChange tlvBackWrong)

/-- 'daybooklaw05.TlvOneForm': WHATEVER THE INPUT: true; the input reads as it did. -/
def tlvOneFormSpec : ChangeSpec := { name := "tlvOneForm", fn := fun _ => fun
  | [d] => { results := [.lit (.bool true)], args := [d] }
  | _ => none }
def tlvOneFormRow : OpenClaim := { program := "ytdfknehdnkmlgaa", sum := "d63ee81e4db7ff9bc9b0dc0f550eeda7c0946a93c8de0b610394f14d5b07b1a9", func := "daybook/daybooklaw05.TlvOneForm", spec := "tlvOneForm", unfollowed := true, recurses := true, apart := false }
def TlvOneFormSaid : Prop := tlvOneFormRow.holds Try.pinned (OpenSpec.ofChange tlvOneFormSpec)

/-- ITS FALSE NEIGHBOUR: 'it returns false'. Refute it at one input. -/
def tlvOneFormWrong : ChangeSpec := { name := "tlvOneForm", fn := fun _ => fun
  | [d] => { results := [.lit (.bool false)], args := [d] }
  | _ => none }
def TlvOneFormWrongFalsely : Prop := tlvOneFormRow.holds Try.pinned (OpenSpec.ofChange tlvOneFormWrong)

/-- 'daybooklaw05.TlvPieces': WHATEVER THE INPUT: true; the input reads as it did. -/
def tlvPiecesSpec : ChangeSpec := { name := "tlvPieces", fn := fun _ => fun
  | [d1, d2] => { results := [.lit (.bool true)], args := [d1, d2] }
  | _ => none }
def tlvPiecesRow : OpenClaim := { program := "ytdfknehdnkmlgaa", sum := "d63ee81e4db7ff9bc9b0dc0f550eeda7c0946a93c8de0b610394f14d5b07b1a9", func := "daybook/daybooklaw05.TlvPieces", spec := "tlvPieces", unfollowed := true, recurses := true, apart := false }
def TlvPiecesSaid : Prop := tlvPiecesRow.holds Try.pinned (OpenSpec.ofChange tlvPiecesSpec)

/-- ITS FALSE NEIGHBOUR: 'it returns false'. Refute it at one input. -/
def tlvPiecesWrong : ChangeSpec := { name := "tlvPieces", fn := fun _ => fun
  | [d1, d2] => { results := [.lit (.bool false)], args := [d1, d2] }
  | _ => none }
def TlvPiecesWrongFalsely : Prop := tlvPiecesRow.holds Try.pinned (OpenSpec.ofChange tlvPiecesWrong)

/- THE SECOND FORM. 'bulk': how many values and letters a reading holds, each counted each time it is reached (what is shared counts as often as it is met; a slice's spare places count too). A statement '..UptoSaid' is the law's where the arguments, and the package variables that the reading takes, are together of bulk at most 1048576: NARROWER than '..Said'. Prove '..Said' where nothing that the law and all that it calls make is longer than what came in: it says more and counts as full. Else prove '..UptoSaid'. A law counts once. -/
mutual
def uptoBulk {H : Type} : DataW H → Nat
  | .lit (.string bytes) => bytes.length + 1
  | .lit _ => 1
  | .nil => 1
  | .ptr d => uptoBulk d + 1
  | .slice elems spare => uptoBulkAll elems + uptoBulkAll spare + 1
  | .agg parts => uptoBulkAll parts + 1
  | .iface _ d => uptoBulk d + 1
  | .map entries => uptoBulkEntries entries + 1
  | .held _ => 1
def uptoBulkAll {H : Type} : List (DataW H) → Nat
  | [] => 0
  | d :: r => uptoBulk d + uptoBulkAll r
def uptoBulkEntries {H : Type} : List (Lit × DataW H) → Nat
  | [] => 0
  | x :: r => uptoBulkEntry x + uptoBulkEntries r
def uptoBulkEntry {H : Type} : Lit × DataW H → Nat
  | (.string bytes, d) => bytes.length + uptoBulk d + 1
  | (_, d) => uptoBulk d + 1
 end
def uptoSmall : (H : Type) → List (DataW H) → Bool := fun _ ds => decide (uptoBulkAll ds ≤ 1048576)
def OpenSpec.upto (s : _root_.Go.ChangeSpec) : _root_.Go.OpenSpec := { _root_.Go.OpenSpec.ofChange s with cond := some uptoSmall }

/-- 'daybooklaw05.TlvEncodes', WHERE WHAT IT READS IS OF BULK AT MOST 1048576: true; the input reads as it did. -/
def tlvEncodesUptoRow : OpenClaim := { program := "ytdfknehdnkmlgaa", sum := "d63ee81e4db7ff9bc9b0dc0f550eeda7c0946a93c8de0b610394f14d5b07b1a9", func := "daybook/daybooklaw05.TlvEncodes", spec := "tlvEncodes", unfollowed := true, recurses := true, apart := false, narrowed := true }
def TlvEncodesUptoSaid : Prop := tlvEncodesUptoRow.holds Try.pinned (OpenSpec.upto tlvEncodesSpec)

/-- 'daybooklaw05.TlvMust', WHERE WHAT IT READS IS OF BULK AT MOST 1048576: true; the input reads as it did. -/
def tlvMustUptoRow : OpenClaim := { program := "ytdfknehdnkmlgaa", sum := "d63ee81e4db7ff9bc9b0dc0f550eeda7c0946a93c8de0b610394f14d5b07b1a9", func := "daybook/daybooklaw05.TlvMust", spec := "tlvMust", unfollowed := true, recurses := true, apart := false, narrowed := true }
def TlvMustUptoSaid : Prop := tlvMustUptoRow.holds Try.pinned (OpenSpec.upto tlvMustSpec)

/-- 'daybooklaw05.TlvDecodes', WHERE WHAT IT READS IS OF BULK AT MOST 1048576: true; the input reads as it did. -/
def tlvDecodesUptoRow : OpenClaim := { program := "ytdfknehdnkmlgaa", sum := "d63ee81e4db7ff9bc9b0dc0f550eeda7c0946a93c8de0b610394f14d5b07b1a9", func := "daybook/daybooklaw05.TlvDecodes", spec := "tlvDecodes", unfollowed := true, recurses := true, apart := false, narrowed := true }
def TlvDecodesUptoSaid : Prop := tlvDecodesUptoRow.holds Try.pinned (OpenSpec.upto tlvDecodesSpec)

/-- 'daybooklaw05.TlvBack', WHERE WHAT IT READS IS OF BULK AT MOST 1048576: true; the input reads as it did. -/
def tlvBackUptoRow : OpenClaim := { program := "ytdfknehdnkmlgaa", sum := "d63ee81e4db7ff9bc9b0dc0f550eeda7c0946a93c8de0b610394f14d5b07b1a9", func := "daybook/daybooklaw05.TlvBack", spec := "tlvBack", unfollowed := true, recurses := true, apart := false, narrowed := true }
def TlvBackUptoSaid : Prop := tlvBackUptoRow.holds Try.pinned (OpenSpec.upto tlvBackSpec)

/-- 'daybooklaw05.TlvOneForm', WHERE WHAT IT READS IS OF BULK AT MOST 1048576: true; the input reads as it did. -/
def tlvOneFormUptoRow : OpenClaim := { program := "ytdfknehdnkmlgaa", sum := "d63ee81e4db7ff9bc9b0dc0f550eeda7c0946a93c8de0b610394f14d5b07b1a9", func := "daybook/daybooklaw05.TlvOneForm", spec := "tlvOneForm", unfollowed := true, recurses := true, apart := false, narrowed := true }
def TlvOneFormUptoSaid : Prop := tlvOneFormUptoRow.holds Try.pinned (OpenSpec.upto tlvOneFormSpec)

/-- 'daybooklaw05.TlvPieces', WHERE WHAT IT READS IS OF BULK AT MOST 1048576: true; the input reads as it did. -/
def tlvPiecesUptoRow : OpenClaim := { program := "ytdfknehdnkmlgaa", sum := "d63ee81e4db7ff9bc9b0dc0f550eeda7c0946a93c8de0b610394f14d5b07b1a9", func := "daybook/daybooklaw05.TlvPieces", spec := "tlvPieces", unfollowed := true, recurses := true, apart := false, narrowed := true }
def TlvPiecesUptoSaid : Prop := tlvPiecesUptoRow.holds Try.pinned (OpenSpec.upto tlvPiecesSpec)

end Rows
end Go.Proofs.Ytdfknehdnkmlgaa
