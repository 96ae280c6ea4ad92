/-
  DERIVED. GIVEN WITH THE SEED: THE CARDS: each row of YtbgdkpkeghnmmabDoorRows.lean that lists a variable, with what it lists TIED to the program's text (the seventh form; the later family's looks); each row that meets fmt, with fmt's text TOLD by the authors' own Lean function (tested against real Go, not proved from fmt's source: count such statements apart). THE CARD IS WHAT COUNTS. Prove the row's statement (the work); the ties are given (YtbgdkpkeghnmmabDoorTie.lean); close each card by the builder's one call (the guide's Derived/Test/ToyasCard.lean, 'card_holds'). Laid BY PROGRAM, IN A SANDBOX (cutbox-door.mjs). By AI agents, Wed Nov 11 2026. No macro, syntax, notation, axiom, sorry.
-/
import Derived.Test.YtbgdkpkeghnmmabDoorRows
import GoSem.ClaimSeven
namespace Go.Proofs.YtbgdkpkeghnmmabDoor
namespace Rows

/-- THE TIED CARD OF 'daybooklaw07.UpcastMoney'. -/
def upcastMoneyCard : Claim7 := { stood := { row := upcastMoneyRow, standIns := [], harness := (true, "a0772e88489e22e9f6fc6c3c5fbebe5d4e8b0a9480ac81dfa1c2afd7724e66b5"), looks := false }, kinds := [], alts := [], laidByText := true, laidKinds := [.data], laidTests := true, laidLooks := .later }
def UpcastMoneyCardSaid : Prop := Claim7.holds Tryd.pinned (.plain (OpenSpec.ofChange upcastMoneySpec)) upcastMoneyCard

/-- THE SECOND FORM's CARD OF 'daybooklaw07.UpcastMoney'. -/
def upcastMoneyUptoCard : Claim7 := { stood := { row := upcastMoneyUptoRow, standIns := [], harness := (true, "a0772e88489e22e9f6fc6c3c5fbebe5d4e8b0a9480ac81dfa1c2afd7724e66b5"), looks := false }, kinds := [], alts := [], laidByText := true, laidKinds := [.data], laidTests := true, laidLooks := .later }
def UpcastMoneyUptoCardSaid : Prop := Claim7.holds Tryd.pinned (.plain (OpenSpec.upto upcastMoneySpec)) upcastMoneyUptoCard
end Rows
end Go.Proofs.YtbgdkpkeghnmmabDoor
