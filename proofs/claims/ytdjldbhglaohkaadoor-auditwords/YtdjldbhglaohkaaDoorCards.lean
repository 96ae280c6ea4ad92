/-
  DERIVED. GIVEN WITH THE SEED: THE CARDS: each row of YtdjldbhglaohkaaDoorRows.lean that lists a variable, with what it lists TIED to the program's text (the seventh form; the later family's looks); each row that meets fmt, with fmt's text TOLD by the authors' own Lean function (tested against real Go, not proved from fmt's source: count such statements apart). THE CARD IS WHAT COUNTS. Prove the row's statement (the work); the ties are given (YtdjldbhglaohkaaDoorTie.lean); close each card by the builder's one call (the guide's Derived/Test/ToyasCard.lean, 'card_holds'). Laid BY PROGRAM, IN A SANDBOX (cutbox-door.mjs). By AI agents, Wed Nov 11 2026. No macro, syntax, notation, axiom, sorry.
-/
import Derived.Test.YtdjldbhglaohkaaDoorRows
import GoSem.ClaimSeven
namespace Go.Proofs.YtdjldbhglaohkaaDoor
namespace Rows

/-- THE TIED CARD OF 'daybooklaw22.AuditWords'. -/
def auditWordsCard : Claim7 := { stood := { row := auditWordsRow, standIns := [], harness := (true, "9138199344948ed5306671134e28ac6e712615d13fa97e1834d0b0df898cea5d"), looks := false }, kinds := [], alts := [], laidByText := true, laidKinds := [.data, .data, .data, .sentinel, .sentinel, .sentinel, .sentinel, .sentinel, .sentinel, .sentinel, .sentinel, .sentinel, .sentinel, .sentinel, .sentinel, .sentinel, .sentinel, .sentinel, .sentinel, .sentinel, .sentinel, .sentinel, .sentinel, .sentinel, .sentinel, .sentinel, .sentinel, .sentinel, .sentinel, .sentinel, .sentinel, .sentinel, .sentinel, .sentinel, .sentinel, .sentinel, .sentinel, .sentinel, .sentinel, .sentinel, .sentinel, .sentinel, .sentinel, .sentinel, .sentinel], laidTests := true, laidLooks := .later }
def AuditWordsCardSaid : Prop := Claim7.holds Tryd.pinned (.plain (OpenSpec.ofChange auditWordsSpec)) auditWordsCard

/-- THE SECOND FORM's CARD OF 'daybooklaw22.AuditWords'. -/
def auditWordsUptoCard : Claim7 := { stood := { row := auditWordsUptoRow, standIns := [], harness := (true, "9138199344948ed5306671134e28ac6e712615d13fa97e1834d0b0df898cea5d"), looks := false }, kinds := [], alts := [], laidByText := true, laidKinds := [.data, .data, .data, .sentinel, .sentinel, .sentinel, .sentinel, .sentinel, .sentinel, .sentinel, .sentinel, .sentinel, .sentinel, .sentinel, .sentinel, .sentinel, .sentinel, .sentinel, .sentinel, .sentinel, .sentinel, .sentinel, .sentinel, .sentinel, .sentinel, .sentinel, .sentinel, .sentinel, .sentinel, .sentinel, .sentinel, .sentinel, .sentinel, .sentinel, .sentinel, .sentinel, .sentinel, .sentinel, .sentinel, .sentinel, .sentinel, .sentinel, .sentinel, .sentinel, .sentinel], laidTests := true, laidLooks := .later }
def AuditWordsUptoCardSaid : Prop := Claim7.holds Tryd.pinned (.plain (OpenSpec.upto auditWordsSpec)) auditWordsUptoCard
end Rows
end Go.Proofs.YtdjldbhglaohkaaDoor
