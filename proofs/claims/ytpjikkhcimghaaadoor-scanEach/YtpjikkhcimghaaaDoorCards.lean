/-
  DERIVED. GIVEN WITH THE SEED: THE CARDS: each row of YtpjikkhcimghaaaDoorRows.lean that lists a variable, with what it lists TIED to the program's text (the seventh form; the later family's looks); each row that meets fmt, with fmt's text TOLD by the authors' own Lean function (tested against real Go, not proved from fmt's source: count such statements apart). THE CARD IS WHAT COUNTS. Prove the row's statement (the work); the ties are given (YtpjikkhcimghaaaDoorTie.lean); close each card by the builder's one call (the guide's Derived/Test/ToyasCard.lean, 'card_holds'). Laid BY PROGRAM, IN A SANDBOX (cutbox-door.mjs). By AI agents, Wed Nov 11 2026. No macro, syntax, notation, axiom, sorry.
-/
import Derived.Test.YtpjikkhcimghaaaDoorRows
import GoSem.ClaimSeven
namespace Go.Proofs.YtpjikkhcimghaaaDoor
namespace Rows

/-- THE TIED CARD OF 'daybooklaw12.ScanEach'. -/
def scanEachCard : Claim7 := { stood := { row := scanEachRow, standIns := [], harness := (true, "63d2063d5b6a3da5c504a2d411948de884d11d2013672f69ea13c706589198f0"), looks := false }, kinds := [], alts := [], laidByText := true, laidKinds := [.data], laidTests := true, laidLooks := .later }
def ScanEachCardSaid : Prop := Claim7.holds Tryd.pinned (.plain (OpenSpec.ofChange scanEachSpec)) scanEachCard

/-- THE SECOND FORM's CARD OF 'daybooklaw12.ScanEach'. -/
def scanEachUptoCard : Claim7 := { stood := { row := scanEachUptoRow, standIns := [], harness := (true, "63d2063d5b6a3da5c504a2d411948de884d11d2013672f69ea13c706589198f0"), looks := false }, kinds := [], alts := [], laidByText := true, laidKinds := [.data], laidTests := true, laidLooks := .later }
def ScanEachUptoCardSaid : Prop := Claim7.holds Tryd.pinned (.plain (OpenSpec.upto scanEachSpec)) scanEachUptoCard
end Rows
end Go.Proofs.YtpjikkhcimghaaaDoor
