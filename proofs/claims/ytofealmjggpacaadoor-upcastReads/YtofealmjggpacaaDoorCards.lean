/-
  DERIVED. GIVEN WITH THE SEED: THE CARDS: each row of YtofealmjggpacaaDoorRows.lean that lists a variable, with what it lists TIED to the program's text (the seventh form; the later family's looks); each row that meets fmt, with fmt's text TOLD by the authors' own Lean function (tested against real Go, not proved from fmt's source: count such statements apart). THE CARD IS WHAT COUNTS. Prove the row's statement (the work); the ties are given (YtofealmjggpacaaDoorTie.lean); close each card by the builder's one call (the guide's Derived/Test/ToyasCard.lean, 'card_holds'). Laid BY PROGRAM, IN A SANDBOX (cutbox-door.mjs). By AI agents, Wed Nov 11 2026. No macro, syntax, notation, axiom, sorry.
-/
import Derived.Test.YtofealmjggpacaaDoorRows
import GoSem.ClaimSeven
namespace Go.Proofs.YtofealmjggpacaaDoor
namespace Rows

/-- THE TIED CARD OF 'daybooklaw07.UpcastReads'. -/
def upcastReadsCard : Claim7 := { stood := { row := upcastReadsRow, standIns := [], harness := (true, "1a6d44a826bb2db176d4c6a75c932eda78e8716e284431dc80b1df28621d8d01"), looks := true }, kinds := [], alts := [], laidByText := true, laidKinds := [.data], laidTests := true, laidLooks := .later }
def UpcastReadsCardSaid : Prop := Claim7.holds Tryd.pinned (.plain (OpenSpec.ofChange upcastReadsSpec)) upcastReadsCard

/-- THE TIED CARD OF 'daybooklaw14.SegmentCloses'. -/
def segmentClosesCard : Claim7 := { stood := { row := segmentClosesRow, standIns := [], harness := (true, "1a6d44a826bb2db176d4c6a75c932eda78e8716e284431dc80b1df28621d8d01"), looks := true }, kinds := [], alts := [], laidByText := true, laidKinds := [.data], laidTests := true, laidLooks := .later }
def SegmentClosesCardSaid : Prop := Claim7.holds Tryd.pinned (.plain (OpenSpec.ofChange segmentClosesSpec)) segmentClosesCard

/-- THE SECOND FORM's CARD OF 'daybooklaw07.UpcastReads'. -/
def upcastReadsUptoCard : Claim7 := { stood := { row := upcastReadsUptoRow, standIns := [], harness := (true, "1a6d44a826bb2db176d4c6a75c932eda78e8716e284431dc80b1df28621d8d01"), looks := true }, kinds := [], alts := [], laidByText := true, laidKinds := [.data], laidTests := true, laidLooks := .later }
def UpcastReadsUptoCardSaid : Prop := Claim7.holds Tryd.pinned (.plain (OpenSpec.upto upcastReadsSpec)) upcastReadsUptoCard

/-- THE SECOND FORM's CARD OF 'daybooklaw14.SegmentCloses'. -/
def segmentClosesUptoCard : Claim7 := { stood := { row := segmentClosesUptoRow, standIns := [], harness := (true, "1a6d44a826bb2db176d4c6a75c932eda78e8716e284431dc80b1df28621d8d01"), looks := true }, kinds := [], alts := [], laidByText := true, laidKinds := [.data], laidTests := true, laidLooks := .later }
def SegmentClosesUptoCardSaid : Prop := Claim7.holds Tryd.pinned (.plain (OpenSpec.upto segmentClosesSpec)) segmentClosesUptoCard
end Rows
end Go.Proofs.YtofealmjggpacaaDoor
