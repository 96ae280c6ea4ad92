/-
  DERIVED. GIVEN WITH THE SEED: THE CARDS: each row of YteamemhimkpjiaaDoorRows.lean that lists a variable, with what it lists TIED to the program's text (the seventh form; the later family's looks); each row that meets fmt, with fmt's text TOLD by the authors' own Lean function (tested against real Go, not proved from fmt's source: count such statements apart). THE CARD IS WHAT COUNTS. Prove the row's statement (the work); the ties are given (YteamemhimkpjiaaDoorTie.lean); close each card by the builder's one call (the guide's Derived/Test/ToyasCard.lean, 'card_holds'). Laid BY PROGRAM, IN A SANDBOX (cutbox-door.mjs). By AI agents, Wed Nov 11 2026. No macro, syntax, notation, axiom, sorry.
-/
import Derived.Test.YteamemhimkpjiaaDoorRows
import GoSem.ClaimSeven
namespace Go.Proofs.YteamemhimkpjiaaDoor
namespace Rows

/-- THE TIED CARD OF 'daybooklaw15.NamesWrites'. -/
def namesWritesCard : Claim7 := { stood := { row := namesWritesRow, standIns := [], harness := (true, "99088f958fe004bcb14e64a4407159f081b545747b8f2150e17f5b48fd28c718"), looks := true }, kinds := [], alts := [], laidByText := true, laidKinds := [.data, .data, .data], laidTests := true, laidLooks := .later }
def NamesWritesCardSaid : Prop := Claim7.holds Tryd.pinned (.plain (OpenSpec.ofChange namesWritesSpec)) namesWritesCard

/-- THE TIED CARD OF 'daybooklaw15.NamesParses'. -/
def namesParsesCard : Claim7 := { stood := { row := namesParsesRow, standIns := [], harness := (true, "99088f958fe004bcb14e64a4407159f081b545747b8f2150e17f5b48fd28c718"), looks := true }, kinds := [], alts := [], laidByText := true, laidKinds := [.data, .data, .data, .sentinel, .sentinel], laidTests := true, laidLooks := .later }
def NamesParsesCardSaid : Prop := Claim7.holds Tryd.pinned (.plain (OpenSpec.ofChange namesParsesSpec)) namesParsesCard

/-- THE TIED CARD OF 'daybooklaw15.NamesBack'. -/
def namesBackCard : Claim7 := { stood := { row := namesBackRow, standIns := [], harness := (true, "99088f958fe004bcb14e64a4407159f081b545747b8f2150e17f5b48fd28c718"), looks := true }, kinds := [], alts := [], laidByText := true, laidKinds := [.data, .data, .data, .sentinel, .sentinel], laidTests := true, laidLooks := .later }
def NamesBackCardSaid : Prop := Claim7.holds Tryd.pinned (.plain (OpenSpec.ofChange namesBackSpec)) namesBackCard

/-- THE TIED CARD OF 'daybooklaw15.NamesRight'. -/
def namesRightCard : Claim7 := { stood := { row := namesRightRow, standIns := [], harness := (true, "99088f958fe004bcb14e64a4407159f081b545747b8f2150e17f5b48fd28c718"), looks := true }, kinds := [], alts := [], laidByText := true, laidKinds := [.data, .data, .data, .sentinel, .sentinel], laidTests := true, laidLooks := .later }
def NamesRightCardSaid : Prop := Claim7.holds Tryd.pinned (.plain (OpenSpec.ofChange namesRightSpec)) namesRightCard

/-- THE TIED CARD OF 'daybooklaw15.NamesOrder'. -/
def namesOrderCard : Claim7 := { stood := { row := namesOrderRow, standIns := [], harness := (true, "99088f958fe004bcb14e64a4407159f081b545747b8f2150e17f5b48fd28c718"), looks := true }, kinds := [], alts := [], laidByText := true, laidKinds := [.data, .data, .data], laidTests := true, laidLooks := .later }
def NamesOrderCardSaid : Prop := Claim7.holds Tryd.pinned (.plain (OpenSpec.ofChange namesOrderSpec)) namesOrderCard

/-- THE SECOND FORM's CARD OF 'daybooklaw15.NamesWrites'. -/
def namesWritesUptoCard : Claim7 := { stood := { row := namesWritesUptoRow, standIns := [], harness := (true, "99088f958fe004bcb14e64a4407159f081b545747b8f2150e17f5b48fd28c718"), looks := true }, kinds := [], alts := [], laidByText := true, laidKinds := [.data, .data, .data], laidTests := true, laidLooks := .later }
def NamesWritesUptoCardSaid : Prop := Claim7.holds Tryd.pinned (.plain (OpenSpec.upto namesWritesSpec)) namesWritesUptoCard

/-- THE SECOND FORM's CARD OF 'daybooklaw15.NamesParses'. -/
def namesParsesUptoCard : Claim7 := { stood := { row := namesParsesUptoRow, standIns := [], harness := (true, "99088f958fe004bcb14e64a4407159f081b545747b8f2150e17f5b48fd28c718"), looks := true }, kinds := [], alts := [], laidByText := true, laidKinds := [.data, .data, .data, .sentinel, .sentinel], laidTests := true, laidLooks := .later }
def NamesParsesUptoCardSaid : Prop := Claim7.holds Tryd.pinned (.plain (OpenSpec.upto namesParsesSpec)) namesParsesUptoCard

/-- THE SECOND FORM's CARD OF 'daybooklaw15.NamesBack'. -/
def namesBackUptoCard : Claim7 := { stood := { row := namesBackUptoRow, standIns := [], harness := (true, "99088f958fe004bcb14e64a4407159f081b545747b8f2150e17f5b48fd28c718"), looks := true }, kinds := [], alts := [], laidByText := true, laidKinds := [.data, .data, .data, .sentinel, .sentinel], laidTests := true, laidLooks := .later }
def NamesBackUptoCardSaid : Prop := Claim7.holds Tryd.pinned (.plain (OpenSpec.upto namesBackSpec)) namesBackUptoCard

/-- THE SECOND FORM's CARD OF 'daybooklaw15.NamesRight'. -/
def namesRightUptoCard : Claim7 := { stood := { row := namesRightUptoRow, standIns := [], harness := (true, "99088f958fe004bcb14e64a4407159f081b545747b8f2150e17f5b48fd28c718"), looks := true }, kinds := [], alts := [], laidByText := true, laidKinds := [.data, .data, .data, .sentinel, .sentinel], laidTests := true, laidLooks := .later }
def NamesRightUptoCardSaid : Prop := Claim7.holds Tryd.pinned (.plain (OpenSpec.upto namesRightSpec)) namesRightUptoCard

/-- THE SECOND FORM's CARD OF 'daybooklaw15.NamesOrder'. -/
def namesOrderUptoCard : Claim7 := { stood := { row := namesOrderUptoRow, standIns := [], harness := (true, "99088f958fe004bcb14e64a4407159f081b545747b8f2150e17f5b48fd28c718"), looks := true }, kinds := [], alts := [], laidByText := true, laidKinds := [.data, .data, .data], laidTests := true, laidLooks := .later }
def NamesOrderUptoCardSaid : Prop := Claim7.holds Tryd.pinned (.plain (OpenSpec.upto namesOrderSpec)) namesOrderUptoCard
end Rows
end Go.Proofs.YteamemhimkpjiaaDoor
