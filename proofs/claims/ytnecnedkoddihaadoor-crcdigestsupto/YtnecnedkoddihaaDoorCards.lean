/-
  DERIVED. GIVEN WITH THE SEED: THE CARDS: each row of YtnecnedkoddihaaDoorRows.lean that lists a variable, with what it lists TIED to the program's text (the seventh form; the later family's looks); each row that meets fmt, with fmt's text TOLD by the authors' own Lean function (tested against real Go, not proved from fmt's source: count such statements apart). THE CARD IS WHAT COUNTS. Prove the row's statement (the work); the ties are given (YtnecnedkoddihaaDoorTie.lean); close each card by the builder's one call (the guide's Derived/Test/ToyasCard.lean, 'card_holds'). Laid BY PROGRAM, IN A SANDBOX (cutbox-door.mjs). By AI agents, Wed Nov 11 2026. No macro, syntax, notation, axiom, sorry.
-/
import Derived.Test.YtnecnedkoddihaaDoorRows
import GoSem.ClaimSeven
namespace Go.Proofs.YtnecnedkoddihaaDoor
namespace Rows

/-- THE TIED CARD OF 'daybooklaw03.CrcCombines'. -/
def crcCombinesCard : Claim7 := { stood := { row := crcCombinesRow, standIns := [], harness := (true, "e601a9524aa8fd42f8be56a4a188d6dd52fefe18a1d745d7d3bc307d658b7921"), looks := false }, kinds := [], alts := [], laidByText := true, laidKinds := [.data], laidTests := true, laidLooks := .later }
def CrcCombinesCardSaid : Prop := Claim7.holds Tryd.pinned (.plain (OpenSpec.ofChange crcCombinesSpec)) crcCombinesCard

/-- THE TIED CARD OF 'daybooklaw03.CrcFar'. -/
def crcFarCard : Claim7 := { stood := { row := crcFarRow, standIns := [], harness := (true, "e601a9524aa8fd42f8be56a4a188d6dd52fefe18a1d745d7d3bc307d658b7921"), looks := false }, kinds := [], alts := [], laidByText := true, laidKinds := [.data], laidTests := true, laidLooks := .later }
def CrcFarCardSaid : Prop := Claim7.holds Tryd.pinned (.plain (OpenSpec.ofChange crcFarSpec)) crcFarCard

/-- THE TIED CARD OF 'daybooklaw03.CrcDigests'. -/
def crcDigestsCard : Claim7 := { stood := { row := crcDigestsRow, standIns := [], harness := (true, "e601a9524aa8fd42f8be56a4a188d6dd52fefe18a1d745d7d3bc307d658b7921"), looks := false }, kinds := [], alts := [], laidByText := true, laidKinds := [.data], laidTests := true, laidLooks := .later }
def CrcDigestsCardSaid : Prop := Claim7.holds Tryd.pinned (.plain (OpenSpec.ofChange crcDigestsSpec)) crcDigestsCard

/-- THE SECOND FORM's CARD OF 'daybooklaw03.CrcCombines'. -/
def crcCombinesUptoCard : Claim7 := { stood := { row := crcCombinesUptoRow, standIns := [], harness := (true, "e601a9524aa8fd42f8be56a4a188d6dd52fefe18a1d745d7d3bc307d658b7921"), looks := false }, kinds := [], alts := [], laidByText := true, laidKinds := [.data], laidTests := true, laidLooks := .later }
def CrcCombinesUptoCardSaid : Prop := Claim7.holds Tryd.pinned (.plain (OpenSpec.upto crcCombinesSpec)) crcCombinesUptoCard

/-- THE SECOND FORM's CARD OF 'daybooklaw03.CrcFar'. -/
def crcFarUptoCard : Claim7 := { stood := { row := crcFarUptoRow, standIns := [], harness := (true, "e601a9524aa8fd42f8be56a4a188d6dd52fefe18a1d745d7d3bc307d658b7921"), looks := false }, kinds := [], alts := [], laidByText := true, laidKinds := [.data], laidTests := true, laidLooks := .later }
def CrcFarUptoCardSaid : Prop := Claim7.holds Tryd.pinned (.plain (OpenSpec.upto crcFarSpec)) crcFarUptoCard

/-- THE SECOND FORM's CARD OF 'daybooklaw03.CrcDigests'. -/
def crcDigestsUptoCard : Claim7 := { stood := { row := crcDigestsUptoRow, standIns := [], harness := (true, "e601a9524aa8fd42f8be56a4a188d6dd52fefe18a1d745d7d3bc307d658b7921"), looks := false }, kinds := [], alts := [], laidByText := true, laidKinds := [.data], laidTests := true, laidLooks := .later }
def CrcDigestsUptoCardSaid : Prop := Claim7.holds Tryd.pinned (.plain (OpenSpec.upto crcDigestsSpec)) crcDigestsUptoCard
end Rows
end Go.Proofs.YtnecnedkoddihaaDoor
