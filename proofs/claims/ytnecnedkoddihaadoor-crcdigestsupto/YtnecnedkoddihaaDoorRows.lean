/-
  NARROWER THAN 'FOR EVERY INPUT', by the rows' own cells (each row's printed sentence says how): CrcCombines: laid · CrcFar: laid · CrcDigests: laid.
  DERIVED. THE GIVEN ROWS OF THIS SEAT. 3 by the template 'for every input the law returns true; each argument reads behind the call as it read before'; 0 by the template 'total and deterministic' (their statements: YtnecnedkoddihaaDoorTotals.lean).
  GIVEN WITH THE SEED: the statements are not yours to turn. If you find one false, say at which input.
  Laid BY PROGRAM, IN A SANDBOX (cutbox-rows.mjs): the forced cells as the released guide's own fill.sh prints them over the translation 2ccabe00f85d501d… (all of the seat's roots in one cut). By AI agents, Wed Nov 11 2026. No macro, syntax, notation, axiom, sorry.
-/
import Derived.Test.YtnecnedkoddihaaDoorChecked
import GoSem.Claim
import GoSem.ClaimJoined
import GoSem.ClaimMapViews
import Derived.JoinedTies
import Derived.KernelRfl
namespace Go.Proofs.YtnecnedkoddihaaDoor
/- THE CELL 'sum', in the pinned program and in every row, IS THE sha256 OF THE DUMP (.gsa) THAT YtnecnedkoddihaaDoorProg.lean LOADS. Nothing in Lean hashes anything: it is a label: what it is worth is what the hold of that sum in a sandbox is worth. -/
noncomputable def Tryd.pinned : Pinned := { name := "ytnecnedkoddihaadoor", sum := "2ccabe00f85d501ddb8bfe6615f15fb72b13b378ca1351a6b3db85d97d2fb589", checked := Tryd.checked }
namespace Rows
def none {H : Type} : Left H := { results := [], args := [] }

/- WHAT THE LISTED PACKAGE-LEVEL VARIABLES READ AS WHEN THE CALL BEGINS. Each datum BY PROGRAM (the guide's laid-datum.mjs) off the statement by which the dump's own 'gosem.cut.vars' lays the variable. In a bare row this is a premise. The card (YtnecnedkoddihaaDoorCards.lean) ties it to the program's text. -/
def laid_daybook_crc_halves {H : Type} : DataW H := .agg [.lit (.int .u32 0), .lit (.int .u32 498536548), .lit (.int .u32 997073096), .lit (.int .u32 651767980), .lit (.int .u32 1994146192), .lit (.int .u32 1802195444), .lit (.int .u32 1303535960), .lit (.int .u32 1342533948), .lit (.int .u32 3988292384), .lit (.int .u32 4027552580), .lit (.int .u32 3604390888), .lit (.int .u32 3412177804), .lit (.int .u32 2607071920), .lit (.int .u32 2262029012), .lit (.int .u32 2685067896), .lit (.int .u32 3183342108)]

/-- 'daybooklaw03.CrcCombines': WHATEVER THE INPUT: true; the input reads as it did. -/
def crcCombinesSpec : ChangeSpec := { name := "crcCombines", fn := fun _ => fun
  | [d1, d2, d3, d4, d5] => { results := [.lit (.bool true)], args := [d1, d2, d3, d4, d5] }
  | _ => none }
def crcCombinesRow : OpenClaim := { program := "ytnecnedkoddihaadoor", sum := "2ccabe00f85d501ddb8bfe6615f15fb72b13b378ca1351a6b3db85d97d2fb589", func := "daybook/daybooklaw03.CrcCombines", spec := "crcCombines", named := ["daybook/crc.halves"], apart := false, laid := [("daybook/crc.halves", laid_daybook_crc_halves)] }
def CrcCombinesSaid : Prop := crcCombinesRow.holds Tryd.pinned (OpenSpec.ofChange crcCombinesSpec)

/-- ITS FALSE NEIGHBOUR: 'it returns false'. Refute it at one input. -/
def crcCombinesWrong : ChangeSpec := { name := "crcCombines", fn := fun _ => fun
  | [d1, d2, d3, d4, d5] => { results := [.lit (.bool false)], args := [d1, d2, d3, d4, d5] }
  | _ => none }
def CrcCombinesWrongFalsely : Prop := crcCombinesRow.holds Tryd.pinned (OpenSpec.ofChange crcCombinesWrong)

/-- 'daybooklaw03.CrcFar': WHATEVER THE INPUT: true; the input reads as it did. -/
def crcFarSpec : ChangeSpec := { name := "crcFar", fn := fun _ => fun
  | [d1, d2, d3, d4] => { results := [.lit (.bool true)], args := [d1, d2, d3, d4] }
  | _ => none }
def crcFarRow : OpenClaim := { program := "ytnecnedkoddihaadoor", sum := "2ccabe00f85d501ddb8bfe6615f15fb72b13b378ca1351a6b3db85d97d2fb589", func := "daybook/daybooklaw03.CrcFar", spec := "crcFar", named := ["daybook/crc.halves"], apart := false, laid := [("daybook/crc.halves", laid_daybook_crc_halves)] }
def CrcFarSaid : Prop := crcFarRow.holds Tryd.pinned (OpenSpec.ofChange crcFarSpec)

/-- ITS FALSE NEIGHBOUR: 'it returns false'. Refute it at one input. -/
def crcFarWrong : ChangeSpec := { name := "crcFar", fn := fun _ => fun
  | [d1, d2, d3, d4] => { results := [.lit (.bool false)], args := [d1, d2, d3, d4] }
  | _ => none }
def CrcFarWrongFalsely : Prop := crcFarRow.holds Tryd.pinned (OpenSpec.ofChange crcFarWrong)

/-- 'daybooklaw03.CrcDigests': WHATEVER THE INPUT: true; the input reads as it did. -/
def crcDigestsSpec : ChangeSpec := { name := "crcDigests", fn := fun _ => fun
  | [d] => { results := [.lit (.bool true)], args := [d] }
  | _ => none }
def crcDigestsRow : OpenClaim := { program := "ytnecnedkoddihaadoor", sum := "2ccabe00f85d501ddb8bfe6615f15fb72b13b378ca1351a6b3db85d97d2fb589", func := "daybook/daybooklaw03.CrcDigests", spec := "crcDigests", named := ["daybook/crc.halves"], apart := false, laid := [("daybook/crc.halves", laid_daybook_crc_halves)] }
def CrcDigestsSaid : Prop := crcDigestsRow.holds Tryd.pinned (OpenSpec.ofChange crcDigestsSpec)

/-- ITS FALSE NEIGHBOUR: 'it returns false'. Refute it at one input. -/
def crcDigestsWrong : ChangeSpec := { name := "crcDigests", fn := fun _ => fun
  | [d] => { results := [.lit (.bool false)], args := [d] }
  | _ => none }
def CrcDigestsWrongFalsely : Prop := crcDigestsRow.holds Tryd.pinned (OpenSpec.ofChange crcDigestsWrong)

/- THE SECOND FORM. 'bulk': how many values and letters a reading holds, each counted each time it is reached (what is shared counts as often as it is met; a slice's spare places count too). A statement '..UptoSaid' is the law's where the arguments, and the package variables that the reading takes, are together of bulk at most 1048576: NARROWER than '..Said'. Prove '..Said' where nothing that the law and all that it calls make is longer than what came in: it says more and counts as full. Else prove '..UptoSaid'. A law counts once. -/
mutual
def uptoBulk {H : Type} : DataW H → Nat
  | .lit (.string bytes) => bytes.length + 1
  | .lit _ => 1
  | .nil => 1
  | .ptr d => uptoBulk d + 1
  | .slice elems spare => uptoBulkAll elems + uptoBulkAll spare + 1
  | .agg parts => uptoBulkAll parts + 1
  | .iface _ d => uptoBulk d + 1
  | .map entries => uptoBulkEntries entries + 1
  | .held _ => 1
def uptoBulkAll {H : Type} : List (DataW H) → Nat
  | [] => 0
  | d :: r => uptoBulk d + uptoBulkAll r
def uptoBulkEntries {H : Type} : List (Lit × DataW H) → Nat
  | [] => 0
  | x :: r => uptoBulkEntry x + uptoBulkEntries r
def uptoBulkEntry {H : Type} : Lit × DataW H → Nat
  | (.string bytes, d) => bytes.length + uptoBulk d + 1
  | (_, d) => uptoBulk d + 1
 end
def uptoSmall : (H : Type) → List (DataW H) → Bool := fun _ ds => decide (uptoBulkAll ds ≤ 1048576)
def OpenSpec.upto (s : _root_.Go.ChangeSpec) : _root_.Go.OpenSpec := { _root_.Go.OpenSpec.ofChange s with cond := some uptoSmall }

/-- 'daybooklaw03.CrcCombines', WHERE WHAT IT READS IS OF BULK AT MOST 1048576: true; the input reads as it did. -/
def crcCombinesUptoRow : OpenClaim := { program := "ytnecnedkoddihaadoor", sum := "2ccabe00f85d501ddb8bfe6615f15fb72b13b378ca1351a6b3db85d97d2fb589", func := "daybook/daybooklaw03.CrcCombines", spec := "crcCombines", named := ["daybook/crc.halves"], apart := false, laid := [("daybook/crc.halves", laid_daybook_crc_halves)], narrowed := true }
def CrcCombinesUptoSaid : Prop := crcCombinesUptoRow.holds Tryd.pinned (OpenSpec.upto crcCombinesSpec)

/-- 'daybooklaw03.CrcFar', WHERE WHAT IT READS IS OF BULK AT MOST 1048576: true; the input reads as it did. -/
def crcFarUptoRow : OpenClaim := { program := "ytnecnedkoddihaadoor", sum := "2ccabe00f85d501ddb8bfe6615f15fb72b13b378ca1351a6b3db85d97d2fb589", func := "daybook/daybooklaw03.CrcFar", spec := "crcFar", named := ["daybook/crc.halves"], apart := false, laid := [("daybook/crc.halves", laid_daybook_crc_halves)], narrowed := true }
def CrcFarUptoSaid : Prop := crcFarUptoRow.holds Tryd.pinned (OpenSpec.upto crcFarSpec)

/-- 'daybooklaw03.CrcDigests', WHERE WHAT IT READS IS OF BULK AT MOST 1048576: true; the input reads as it did. -/
def crcDigestsUptoRow : OpenClaim := { program := "ytnecnedkoddihaadoor", sum := "2ccabe00f85d501ddb8bfe6615f15fb72b13b378ca1351a6b3db85d97d2fb589", func := "daybook/daybooklaw03.CrcDigests", spec := "crcDigests", named := ["daybook/crc.halves"], apart := false, laid := [("daybook/crc.halves", laid_daybook_crc_halves)], narrowed := true }
def CrcDigestsUptoSaid : Prop := crcDigestsUptoRow.holds Tryd.pinned (OpenSpec.upto crcDigestsSpec)

end Rows
end Go.Proofs.YtnecnedkoddihaaDoor
