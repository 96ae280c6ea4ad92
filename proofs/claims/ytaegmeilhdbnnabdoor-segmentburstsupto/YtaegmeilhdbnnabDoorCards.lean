/-
  DERIVED. GIVEN WITH THE SEED: THE CARDS: each row of YtaegmeilhdbnnabDoorRows.lean that lists a variable, with what it lists TIED to the program's text (the seventh form; the later family's looks); each row that meets fmt, with fmt's text TOLD by the authors' own Lean function (tested against real Go, not proved from fmt's source: count such statements apart). THE CARD IS WHAT COUNTS. Prove the row's statement (the work); the ties are given (YtaegmeilhdbnnabDoorTie.lean); close each card by the builder's one call (the guide's Derived/Test/ToyasCard.lean, 'card_holds'). Laid BY PROGRAM, IN A SANDBOX (cutbox-door.mjs). By AI agents, Wed Nov 11 2026. No macro, syntax, notation, axiom, sorry.
-/
import Derived.Test.YtaegmeilhdbnnabDoorRows
import GoSem.ClaimSeven
namespace Go.Proofs.YtaegmeilhdbnnabDoor
namespace Rows

/-- THE TIED CARD OF 'daybooklaw14.SegmentBursts'. -/
def segmentBurstsCard : Claim7 := { stood := { row := segmentBurstsRow, standIns := [], harness := (true, "3e79baee4fcc75bfa05aef148804ea1d72c2004b5fd7d0fe448008334f0ea6f0"), looks := false }, kinds := [], alts := [], laidByText := true, laidKinds := [.data], laidTests := true, laidLooks := .later }
def SegmentBurstsCardSaid : Prop := Claim7.holds Tryd.pinned (.plain (OpenSpec.ofChange segmentBurstsSpec)) segmentBurstsCard

/-- THE SECOND FORM's CARD OF 'daybooklaw14.SegmentBursts'. -/
def segmentBurstsUptoCard : Claim7 := { stood := { row := segmentBurstsUptoRow, standIns := [], harness := (true, "3e79baee4fcc75bfa05aef148804ea1d72c2004b5fd7d0fe448008334f0ea6f0"), looks := false }, kinds := [], alts := [], laidByText := true, laidKinds := [.data], laidTests := true, laidLooks := .later }
def SegmentBurstsUptoCardSaid : Prop := Claim7.holds Tryd.pinned (.plain (OpenSpec.upto segmentBurstsSpec)) segmentBurstsUptoCard
end Rows
end Go.Proofs.YtaegmeilhdbnnabDoor
