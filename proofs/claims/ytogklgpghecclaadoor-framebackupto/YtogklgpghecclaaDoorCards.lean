/-
  DERIVED. GIVEN WITH THE SEED: THE CARDS: each row of YtogklgpghecclaaDoorRows.lean that lists a variable, with what it lists TIED to the program's text (the seventh form; the later family's looks); each row that meets fmt, with fmt's text TOLD by the authors' own Lean function (tested against real Go, not proved from fmt's source: count such statements apart). THE CARD IS WHAT COUNTS. Prove the row's statement (the work); the ties are given (YtogklgpghecclaaDoorTie.lean); close each card by the builder's one call (the guide's Derived/Test/ToyasCard.lean, 'card_holds'). Laid BY PROGRAM, IN A SANDBOX (cutbox-door.mjs). By AI agents, Wed Nov 11 2026. No macro, syntax, notation, axiom, sorry.
-/
import Derived.Test.YtogklgpghecclaaDoorRows
import GoSem.ClaimSeven
namespace Go.Proofs.YtogklgpghecclaaDoor
namespace Rows

/-- THE TIED CARD OF 'daybooklaw11.FrameEncodes'. -/
def frameEncodesCard : Claim7 := { stood := { row := frameEncodesRow, standIns := [], harness := (true, "d2e4a1299845f1e4e1781f3eb3c65186ff8f3dea5b35ecd9d92b8cfa64118acf"), looks := false }, kinds := [], alts := [], laidByText := true, laidKinds := [.data], laidTests := true, laidLooks := .later }
def FrameEncodesCardSaid : Prop := Claim7.holds Tryd.pinned (.plain (OpenSpec.ofChange frameEncodesSpec)) frameEncodesCard

/-- THE TIED CARD OF 'daybooklaw11.FrameDecodes'. -/
def frameDecodesCard : Claim7 := { stood := { row := frameDecodesRow, standIns := [], harness := (true, "d2e4a1299845f1e4e1781f3eb3c65186ff8f3dea5b35ecd9d92b8cfa64118acf"), looks := false }, kinds := [], alts := [], laidByText := true, laidKinds := [.data], laidTests := true, laidLooks := .later }
def FrameDecodesCardSaid : Prop := Claim7.holds Tryd.pinned (.plain (OpenSpec.ofChange frameDecodesSpec)) frameDecodesCard

/-- THE TIED CARD OF 'daybooklaw11.FrameWholes'. -/
def frameWholesCard : Claim7 := { stood := { row := frameWholesRow, standIns := [], harness := (true, "d2e4a1299845f1e4e1781f3eb3c65186ff8f3dea5b35ecd9d92b8cfa64118acf"), looks := false }, kinds := [], alts := [], laidByText := true, laidKinds := [.data], laidTests := true, laidLooks := .later }
def FrameWholesCardSaid : Prop := Claim7.holds Tryd.pinned (.plain (OpenSpec.ofChange frameWholesSpec)) frameWholesCard

/-- THE TIED CARD OF 'daybooklaw11.FrameBack'. -/
def frameBackCard : Claim7 := { stood := { row := frameBackRow, standIns := [], harness := (true, "d2e4a1299845f1e4e1781f3eb3c65186ff8f3dea5b35ecd9d92b8cfa64118acf"), looks := false }, kinds := [], alts := [], laidByText := true, laidKinds := [.data], laidTests := true, laidLooks := .later }
def FrameBackCardSaid : Prop := Claim7.holds Tryd.pinned (.plain (OpenSpec.ofChange frameBackSpec)) frameBackCard

/-- THE TIED CARD OF 'daybooklaw11.FrameBursts'. -/
def frameBurstsCard : Claim7 := { stood := { row := frameBurstsRow, standIns := [], harness := (true, "d2e4a1299845f1e4e1781f3eb3c65186ff8f3dea5b35ecd9d92b8cfa64118acf"), looks := false }, kinds := [], alts := [], laidByText := true, laidKinds := [.data], laidTests := true, laidLooks := .later }
def FrameBurstsCardSaid : Prop := Claim7.holds Tryd.pinned (.plain (OpenSpec.ofChange frameBurstsSpec)) frameBurstsCard

/-- THE TIED CARD OF 'daybooklaw11.FrameOneForm'. -/
def frameOneFormCard : Claim7 := { stood := { row := frameOneFormRow, standIns := [], harness := (true, "d2e4a1299845f1e4e1781f3eb3c65186ff8f3dea5b35ecd9d92b8cfa64118acf"), looks := false }, kinds := [], alts := [], laidByText := true, laidKinds := [.data], laidTests := true, laidLooks := .later }
def FrameOneFormCardSaid : Prop := Claim7.holds Tryd.pinned (.plain (OpenSpec.ofChange frameOneFormSpec)) frameOneFormCard

/-- THE SECOND FORM's CARD OF 'daybooklaw11.FrameEncodes'. -/
def frameEncodesUptoCard : Claim7 := { stood := { row := frameEncodesUptoRow, standIns := [], harness := (true, "d2e4a1299845f1e4e1781f3eb3c65186ff8f3dea5b35ecd9d92b8cfa64118acf"), looks := false }, kinds := [], alts := [], laidByText := true, laidKinds := [.data], laidTests := true, laidLooks := .later }
def FrameEncodesUptoCardSaid : Prop := Claim7.holds Tryd.pinned (.plain (OpenSpec.upto frameEncodesSpec)) frameEncodesUptoCard

/-- THE SECOND FORM's CARD OF 'daybooklaw11.FrameDecodes'. -/
def frameDecodesUptoCard : Claim7 := { stood := { row := frameDecodesUptoRow, standIns := [], harness := (true, "d2e4a1299845f1e4e1781f3eb3c65186ff8f3dea5b35ecd9d92b8cfa64118acf"), looks := false }, kinds := [], alts := [], laidByText := true, laidKinds := [.data], laidTests := true, laidLooks := .later }
def FrameDecodesUptoCardSaid : Prop := Claim7.holds Tryd.pinned (.plain (OpenSpec.upto frameDecodesSpec)) frameDecodesUptoCard

/-- THE SECOND FORM's CARD OF 'daybooklaw11.FrameWholes'. -/
def frameWholesUptoCard : Claim7 := { stood := { row := frameWholesUptoRow, standIns := [], harness := (true, "d2e4a1299845f1e4e1781f3eb3c65186ff8f3dea5b35ecd9d92b8cfa64118acf"), looks := false }, kinds := [], alts := [], laidByText := true, laidKinds := [.data], laidTests := true, laidLooks := .later }
def FrameWholesUptoCardSaid : Prop := Claim7.holds Tryd.pinned (.plain (OpenSpec.upto frameWholesSpec)) frameWholesUptoCard

/-- THE SECOND FORM's CARD OF 'daybooklaw11.FrameBack'. -/
def frameBackUptoCard : Claim7 := { stood := { row := frameBackUptoRow, standIns := [], harness := (true, "d2e4a1299845f1e4e1781f3eb3c65186ff8f3dea5b35ecd9d92b8cfa64118acf"), looks := false }, kinds := [], alts := [], laidByText := true, laidKinds := [.data], laidTests := true, laidLooks := .later }
def FrameBackUptoCardSaid : Prop := Claim7.holds Tryd.pinned (.plain (OpenSpec.upto frameBackSpec)) frameBackUptoCard

/-- THE SECOND FORM's CARD OF 'daybooklaw11.FrameBursts'. -/
def frameBurstsUptoCard : Claim7 := { stood := { row := frameBurstsUptoRow, standIns := [], harness := (true, "d2e4a1299845f1e4e1781f3eb3c65186ff8f3dea5b35ecd9d92b8cfa64118acf"), looks := false }, kinds := [], alts := [], laidByText := true, laidKinds := [.data], laidTests := true, laidLooks := .later }
def FrameBurstsUptoCardSaid : Prop := Claim7.holds Tryd.pinned (.plain (OpenSpec.upto frameBurstsSpec)) frameBurstsUptoCard

/-- THE SECOND FORM's CARD OF 'daybooklaw11.FrameOneForm'. -/
def frameOneFormUptoCard : Claim7 := { stood := { row := frameOneFormUptoRow, standIns := [], harness := (true, "d2e4a1299845f1e4e1781f3eb3c65186ff8f3dea5b35ecd9d92b8cfa64118acf"), looks := false }, kinds := [], alts := [], laidByText := true, laidKinds := [.data], laidTests := true, laidLooks := .later }
def FrameOneFormUptoCardSaid : Prop := Claim7.holds Tryd.pinned (.plain (OpenSpec.upto frameOneFormSpec)) frameOneFormUptoCard
end Rows
end Go.Proofs.YtogklgpghecclaaDoor
