/-
  DERIVED. GIVEN WITH THE SEED: THE CARDS: each row of YtomgnbhajhkhfaaDoorRows.lean that lists a variable, with what it lists TIED to the program's text (the seventh form; the later family's looks); each row that meets fmt, with fmt's text TOLD by the authors' own Lean function (tested against real Go, not proved from fmt's source: count such statements apart). THE CARD IS WHAT COUNTS. Prove the row's statement (the work); the ties are given (YtomgnbhajhkhfaaDoorTie.lean); close each card by the builder's one call (the guide's Derived/Test/ToyasCard.lean, 'card_holds'). Laid BY PROGRAM, IN A SANDBOX (cutbox-door.mjs). By AI agents, Wed Nov 11 2026. No macro, syntax, notation, axiom, sorry.
-/
import Derived.Test.YtomgnbhajhkhfaaDoorRows
import GoSem.ClaimSeven
namespace Go.Proofs.YtomgnbhajhkhfaaDoor
namespace Rows

/-- THE TIED CARD OF 'daybooklaw24.DumpBasics'. -/
def dumpBasicsCard : Claim7 := { stood := { row := dumpBasicsRow, standIns := [], harness := (true, "efa936e3fc728b776a05591aba5c5ee18b1ac36d07c570d0ab22e30f127e2ba1"), looks := true }, kinds := [], alts := [], laidByText := true, laidKinds := [.data, .data, .data, .sentinel, .sentinel], laidTests := true, laidLooks := .later }
def DumpBasicsCardSaid : Prop := Claim7.holds Tryd.pinned (.plain (OpenSpec.ofChange dumpBasicsSpec)) dumpBasicsCard

/-- THE SECOND FORM's CARD OF 'daybooklaw24.DumpBasics'. -/
def dumpBasicsUptoCard : Claim7 := { stood := { row := dumpBasicsUptoRow, standIns := [], harness := (true, "efa936e3fc728b776a05591aba5c5ee18b1ac36d07c570d0ab22e30f127e2ba1"), looks := true }, kinds := [], alts := [], laidByText := true, laidKinds := [.data, .data, .data, .sentinel, .sentinel], laidTests := true, laidLooks := .later }
def DumpBasicsUptoCardSaid : Prop := Claim7.holds Tryd.pinned (.plain (OpenSpec.upto dumpBasicsSpec)) dumpBasicsUptoCard
end Rows
end Go.Proofs.YtomgnbhajhkhfaaDoor
