/-
  DERIVED. GIVEN WITH THE SEED: THE CARDS: each row of YtfnkhpijcbpeoaaDoorRows.lean that lists a variable, with what it lists TIED to the program's text (the seventh form; the later family's looks); each row that meets fmt, with fmt's text TOLD by the authors' own Lean function (tested against real Go, not proved from fmt's source: count such statements apart). THE CARD IS WHAT COUNTS. Prove the row's statement (the work); the ties are given (YtfnkhpijcbpeoaaDoorTie.lean); close each card by the builder's one call (the guide's Derived/Test/ToyasCard.lean, 'card_holds'). Laid BY PROGRAM, IN A SANDBOX (cutbox-door.mjs). By AI agents, Wed Nov 11 2026. No macro, syntax, notation, axiom, sorry.
-/
import Derived.Test.YtfnkhpijcbpeoaaDoorRows
import GoSem.ClaimSeven
namespace Go.Proofs.YtfnkhpijcbpeoaaDoor
namespace Rows

/-- THE TIED CARD OF 'daybooklaw14.SegmentCloses'. -/
def segmentClosesCard : Claim7 := { stood := { row := segmentClosesRow, standIns := [], harness := (true, "830ecc701a9dda12ebcc5ac81fc29f8ff29105c421445efb94ea7a72b8909ef5"), looks := false }, kinds := [], alts := [], laidByText := true, laidKinds := [.data], laidTests := true, laidLooks := .later }
def SegmentClosesCardSaid : Prop := Claim7.holds Tryd.pinned (.plain (OpenSpec.ofChange segmentClosesSpec)) segmentClosesCard

/-- THE SECOND FORM's CARD OF 'daybooklaw14.SegmentCloses'. -/
def segmentClosesUptoCard : Claim7 := { stood := { row := segmentClosesUptoRow, standIns := [], harness := (true, "830ecc701a9dda12ebcc5ac81fc29f8ff29105c421445efb94ea7a72b8909ef5"), looks := false }, kinds := [], alts := [], laidByText := true, laidKinds := [.data], laidTests := true, laidLooks := .later }
def SegmentClosesUptoCardSaid : Prop := Claim7.holds Tryd.pinned (.plain (OpenSpec.upto segmentClosesSpec)) segmentClosesUptoCard
end Rows
end Go.Proofs.YtfnkhpijcbpeoaaDoor
