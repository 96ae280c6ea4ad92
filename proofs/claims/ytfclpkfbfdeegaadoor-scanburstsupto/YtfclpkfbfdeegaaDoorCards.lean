/-
  DERIVED. GIVEN WITH THE SEED: THE CARDS: each row of YtfclpkfbfdeegaaDoorRows.lean that lists a variable, with what it lists TIED to the program's text (the seventh form; the later family's looks); each row that meets fmt, with fmt's text TOLD by the authors' own Lean function (tested against real Go, not proved from fmt's source: count such statements apart). THE CARD IS WHAT COUNTS. Prove the row's statement (the work); the ties are given (YtfclpkfbfdeegaaDoorTie.lean); close each card by the builder's one call (the guide's Derived/Test/ToyasCard.lean, 'card_holds'). Laid BY PROGRAM, IN A SANDBOX (cutbox-door.mjs). By AI agents, Wed Nov 11 2026. No macro, syntax, notation, axiom, sorry.
-/
import Derived.Test.YtfclpkfbfdeegaaDoorRows
import GoSem.ClaimSeven
namespace Go.Proofs.YtfclpkfbfdeegaaDoor
namespace Rows

/-- THE TIED CARD OF 'daybooklaw12.ScanEach'. -/
def scanEachCard : Claim7 := { stood := { row := scanEachRow, standIns := [], harness := (true, "05b6933d44a95d1bf24c52dfe367f357ff21a8ad7895f09b7f9bebb5cc9aa9e3"), looks := false }, kinds := [], alts := [], laidByText := true, laidKinds := [.data], laidTests := true, laidLooks := .later }
def ScanEachCardSaid : Prop := Claim7.holds Tryd.pinned (.plain (OpenSpec.ofChange scanEachSpec)) scanEachCard

/-- THE TIED CARD OF 'daybooklaw12.ScanTorn'. -/
def scanTornCard : Claim7 := { stood := { row := scanTornRow, standIns := [], harness := (true, "05b6933d44a95d1bf24c52dfe367f357ff21a8ad7895f09b7f9bebb5cc9aa9e3"), looks := false }, kinds := [], alts := [], laidByText := true, laidKinds := [.data], laidTests := true, laidLooks := .later }
def ScanTornCardSaid : Prop := Claim7.holds Tryd.pinned (.plain (OpenSpec.ofChange scanTornSpec)) scanTornCard

/-- THE TIED CARD OF 'daybooklaw12.ScanBursts'. -/
def scanBurstsCard : Claim7 := { stood := { row := scanBurstsRow, standIns := [], harness := (true, "05b6933d44a95d1bf24c52dfe367f357ff21a8ad7895f09b7f9bebb5cc9aa9e3"), looks := false }, kinds := [], alts := [], laidByText := true, laidKinds := [.data], laidTests := true, laidLooks := .later }
def ScanBurstsCardSaid : Prop := Claim7.holds Tryd.pinned (.plain (OpenSpec.ofChange scanBurstsSpec)) scanBurstsCard

/-- THE SECOND FORM's CARD OF 'daybooklaw12.ScanEach'. -/
def scanEachUptoCard : Claim7 := { stood := { row := scanEachUptoRow, standIns := [], harness := (true, "05b6933d44a95d1bf24c52dfe367f357ff21a8ad7895f09b7f9bebb5cc9aa9e3"), looks := false }, kinds := [], alts := [], laidByText := true, laidKinds := [.data], laidTests := true, laidLooks := .later }
def ScanEachUptoCardSaid : Prop := Claim7.holds Tryd.pinned (.plain (OpenSpec.upto scanEachSpec)) scanEachUptoCard

/-- THE SECOND FORM's CARD OF 'daybooklaw12.ScanTorn'. -/
def scanTornUptoCard : Claim7 := { stood := { row := scanTornUptoRow, standIns := [], harness := (true, "05b6933d44a95d1bf24c52dfe367f357ff21a8ad7895f09b7f9bebb5cc9aa9e3"), looks := false }, kinds := [], alts := [], laidByText := true, laidKinds := [.data], laidTests := true, laidLooks := .later }
def ScanTornUptoCardSaid : Prop := Claim7.holds Tryd.pinned (.plain (OpenSpec.upto scanTornSpec)) scanTornUptoCard

/-- THE SECOND FORM's CARD OF 'daybooklaw12.ScanBursts'. -/
def scanBurstsUptoCard : Claim7 := { stood := { row := scanBurstsUptoRow, standIns := [], harness := (true, "05b6933d44a95d1bf24c52dfe367f357ff21a8ad7895f09b7f9bebb5cc9aa9e3"), looks := false }, kinds := [], alts := [], laidByText := true, laidKinds := [.data], laidTests := true, laidLooks := .later }
def ScanBurstsUptoCardSaid : Prop := Claim7.holds Tryd.pinned (.plain (OpenSpec.upto scanBurstsSpec)) scanBurstsUptoCard
end Rows
end Go.Proofs.YtfclpkfbfdeegaaDoor
