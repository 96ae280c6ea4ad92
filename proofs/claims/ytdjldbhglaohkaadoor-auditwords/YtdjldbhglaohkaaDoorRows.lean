/-
  NARROWER THAN 'FOR EVERY INPUT', by the rows' own cells (each row's printed sentence says how): AuditWords: laid.
  DERIVED. THE GIVEN ROWS OF THIS SEAT. 1 by the template 'for every input the law returns true; each argument reads behind the call as it read before'; 0 by the template 'total and deterministic' (their statements: YtdjldbhglaohkaaDoorTotals.lean).
  GIVEN WITH THE SEED: the statements are not yours to turn. If you find one false, say at which input.
  Laid BY PROGRAM, IN A SANDBOX (cutbox-rows.mjs): the forced cells as the released guide's own fill.sh prints them over the translation e15a20b0182d902c… (all of the seat's roots in one cut). By AI agents, Wed Nov 11 2026. No macro, syntax, notation, axiom, sorry.
-/
import Derived.Test.YtdjldbhglaohkaaDoorChecked
import GoSem.Claim
import GoSem.ClaimJoined
import GoSem.ClaimMapViews
import Derived.JoinedTies
import Derived.KernelRfl
namespace Go.Proofs.YtdjldbhglaohkaaDoor
/- THE CELL 'sum', in the pinned program and in every row, IS THE sha256 OF THE DUMP (.gsa) THAT YtdjldbhglaohkaaDoorProg.lean LOADS. Nothing in Lean hashes anything: it is a label: what it is worth is what the hold of that sum in a sandbox is worth. -/
noncomputable def Tryd.pinned : Pinned := { name := "ytdjldbhglaohkaadoor", sum := "e15a20b0182d902c50d93f4d29dc1ffc666367df96de02c5f862167fc7225f67", checked := Tryd.checked }
namespace Rows
def none {H : Type} : Left H := { results := [], args := [] }

/- WHAT THE LISTED PACKAGE-LEVEL VARIABLES READ AS WHEN THE CALL BEGINS. Each datum BY PROGRAM (the guide's laid-datum.mjs) off the statement by which the dump's own 'gosem.cut.vars' lays the variable. In a bare row this is a premise. The card (YtdjldbhglaohkaaDoorCards.lean) ties it to the program's text. -/
def laid_math_bits_deBruijn32tab {H : Type} : DataW H := .agg [.lit (.int .u8 0), .lit (.int .u8 1), .lit (.int .u8 28), .lit (.int .u8 2), .lit (.int .u8 29), .lit (.int .u8 14), .lit (.int .u8 24), .lit (.int .u8 3), .lit (.int .u8 30), .lit (.int .u8 22), .lit (.int .u8 20), .lit (.int .u8 15), .lit (.int .u8 25), .lit (.int .u8 17), .lit (.int .u8 4), .lit (.int .u8 8), .lit (.int .u8 31), .lit (.int .u8 27), .lit (.int .u8 13), .lit (.int .u8 23), .lit (.int .u8 21), .lit (.int .u8 19), .lit (.int .u8 16), .lit (.int .u8 7), .lit (.int .u8 26), .lit (.int .u8 12), .lit (.int .u8 18), .lit (.int .u8 6), .lit (.int .u8 11), .lit (.int .u8 5), .lit (.int .u8 10), .lit (.int .u8 9)]
def laid_math_bits_deBruijn64tab {H : Type} : DataW H := .agg [.lit (.int .u8 0), .lit (.int .u8 1), .lit (.int .u8 56), .lit (.int .u8 2), .lit (.int .u8 57), .lit (.int .u8 49), .lit (.int .u8 28), .lit (.int .u8 3), .lit (.int .u8 61), .lit (.int .u8 58), .lit (.int .u8 42), .lit (.int .u8 50), .lit (.int .u8 38), .lit (.int .u8 29), .lit (.int .u8 17), .lit (.int .u8 4), .lit (.int .u8 62), .lit (.int .u8 47), .lit (.int .u8 59), .lit (.int .u8 36), .lit (.int .u8 45), .lit (.int .u8 43), .lit (.int .u8 51), .lit (.int .u8 22), .lit (.int .u8 53), .lit (.int .u8 39), .lit (.int .u8 33), .lit (.int .u8 30), .lit (.int .u8 24), .lit (.int .u8 18), .lit (.int .u8 12), .lit (.int .u8 5), .lit (.int .u8 63), .lit (.int .u8 55), .lit (.int .u8 48), .lit (.int .u8 27), .lit (.int .u8 60), .lit (.int .u8 41), .lit (.int .u8 37), .lit (.int .u8 16), .lit (.int .u8 46), .lit (.int .u8 35), .lit (.int .u8 44), .lit (.int .u8 21), .lit (.int .u8 52), .lit (.int .u8 32), .lit (.int .u8 23), .lit (.int .u8 11), .lit (.int .u8 54), .lit (.int .u8 26), .lit (.int .u8 40), .lit (.int .u8 15), .lit (.int .u8 34), .lit (.int .u8 20), .lit (.int .u8 31), .lit (.int .u8 10), .lit (.int .u8 25), .lit (.int .u8 14), .lit (.int .u8 19), .lit (.int .u8 9), .lit (.int .u8 13), .lit (.int .u8 8), .lit (.int .u8 7), .lit (.int .u8 6)]
def laid_internal_strconv_uint64pow10 {H : Type} : DataW H := .agg [.lit (.int .u64 1), .lit (.int .u64 10), .lit (.int .u64 100), .lit (.int .u64 1000), .lit (.int .u64 10000), .lit (.int .u64 100000), .lit (.int .u64 1000000), .lit (.int .u64 10000000), .lit (.int .u64 100000000), .lit (.int .u64 1000000000), .lit (.int .u64 10000000000), .lit (.int .u64 100000000000), .lit (.int .u64 1000000000000), .lit (.int .u64 10000000000000), .lit (.int .u64 100000000000000), .lit (.int .u64 1000000000000000), .lit (.int .u64 10000000000000000), .lit (.int .u64 100000000000000000), .lit (.int .u64 1000000000000000000), .lit (.int .u64 10000000000000000000)]
def laid_daybook_fault_errArg {H : Type} : DataW H := .iface "*errors.errorString" (.ptr (.agg [.lit (.string [97, 114, 103, 117, 109, 101, 110, 116])]))
def laid_daybook_fault_errClosed {H : Type} : DataW H := .iface "*errors.errorString" (.ptr (.agg [.lit (.string [99, 108, 111, 115, 101, 100])]))
def laid_daybook_fault_errDown {H : Type} : DataW H := .iface "*errors.errorString" (.ptr (.agg [.lit (.string [112, 111, 119, 101, 114, 32, 111, 102, 102])]))
def laid_daybook_fault_errCorrupt {H : Type} : DataW H := .iface "*errors.errorString" (.ptr (.agg [.lit (.string [99, 111, 114, 114, 117, 112, 116])]))
def laid_daybook_fault_errShort {H : Type} : DataW H := .iface "*errors.errorString" (.ptr (.agg [.lit (.string [101, 110, 100, 115, 32, 101, 97, 114, 108, 121])]))
def laid_daybook_fault_errLong {H : Type} : DataW H := .iface "*errors.errorString" (.ptr (.agg [.lit (.string [111, 118, 101, 114, 108, 111, 110, 103])]))
def laid_daybook_fault_errWide {H : Type} : DataW H := .iface "*errors.errorString" (.ptr (.agg [.lit (.string [116, 111, 111, 32, 119, 105, 100, 101])]))
def laid_daybook_fault_errTag {H : Type} : DataW H := .iface "*errors.errorString" (.ptr (.agg [.lit (.string [116, 97, 103])]))
def laid_daybook_fault_errOrder {H : Type} : DataW H := .iface "*errors.errorString" (.ptr (.agg [.lit (.string [111, 114, 100, 101, 114, 32, 111, 102, 32, 116, 97, 103, 115])]))
def laid_daybook_fault_errZero {H : Type} : DataW H := .iface "*errors.errorString" (.ptr (.agg [.lit (.string [101, 109, 112, 116, 121, 32, 102, 105, 101, 108, 100])]))
def laid_daybook_fault_errText {H : Type} : DataW H := .iface "*errors.errorString" (.ptr (.agg [.lit (.string [108, 111, 110, 103, 32, 116, 101, 120, 116])]))
def laid_daybook_fault_errBig {H : Type} : DataW H := .iface "*errors.errorString" (.ptr (.agg [.lit (.string [116, 111, 111, 32, 98, 105, 103])]))
def laid_daybook_fault_errVersion {H : Type} : DataW H := .iface "*errors.errorString" (.ptr (.agg [.lit (.string [118, 101, 114, 115, 105, 111, 110])]))
def laid_daybook_fault_errKind {H : Type} : DataW H := .iface "*errors.errorString" (.ptr (.agg [.lit (.string [107, 105, 110, 100])]))
def laid_daybook_fault_errField {H : Type} : DataW H := .iface "*errors.errorString" (.ptr (.agg [.lit (.string [102, 105, 101, 108, 100])]))
def laid_daybook_fault_errForm {H : Type} : DataW H := .iface "*errors.errorString" (.ptr (.agg [.lit (.string [102, 111, 114, 109])]))
def laid_daybook_fault_errState {H : Type} : DataW H := .iface "*errors.errorString" (.ptr (.agg [.lit (.string [115, 116, 97, 116, 101])]))
def laid_daybook_fault_errName {H : Type} : DataW H := .iface "*errors.errorString" (.ptr (.agg [.lit (.string [110, 97, 109, 101])]))
def laid_daybook_fault_errNoFile {H : Type} : DataW H := .iface "*errors.errorString" (.ptr (.agg [.lit (.string [110, 111, 32, 102, 105, 108, 101])]))
def laid_daybook_fault_errExists {H : Type} : DataW H := .iface "*errors.errorString" (.ptr (.agg [.lit (.string [101, 120, 105, 115, 116, 115])]))
def laid_daybook_fault_errFiles {H : Type} : DataW H := .iface "*errors.errorString" (.ptr (.agg [.lit (.string [102, 105, 108, 101, 115])]))
def laid_daybook_fault_errFull {H : Type} : DataW H := .iface "*errors.errorString" (.ptr (.agg [.lit (.string [100, 105, 115, 107, 32, 102, 117, 108, 108])]))
def laid_daybook_fault_errTorn {H : Type} : DataW H := .iface "*errors.errorString" (.ptr (.agg [.lit (.string [116, 111, 114, 110])]))
def laid_daybook_fault_errMark {H : Type} : DataW H := .iface "*errors.errorString" (.ptr (.agg [.lit (.string [109, 97, 114, 107])]))
def laid_daybook_fault_errSum {H : Type} : DataW H := .iface "*errors.errorString" (.ptr (.agg [.lit (.string [115, 117, 109])]))
def laid_daybook_fault_errRange {H : Type} : DataW H := .iface "*errors.errorString" (.ptr (.agg [.lit (.string [114, 97, 110, 103, 101])]))
def laid_daybook_fault_errIndex {H : Type} : DataW H := .iface "*errors.errorString" (.ptr (.agg [.lit (.string [105, 110, 100, 101, 120])]))
def laid_daybook_fault_errHeader {H : Type} : DataW H := .iface "*errors.errorString" (.ptr (.agg [.lit (.string [104, 101, 97, 100, 101, 114])]))
def laid_daybook_fault_errSealed {H : Type} : DataW H := .iface "*errors.errorString" (.ptr (.agg [.lit (.string [115, 101, 97, 108, 101, 100])]))
def laid_daybook_fault_errMissing {H : Type} : DataW H := .iface "*errors.errorString" (.ptr (.agg [.lit (.string [109, 105, 115, 115, 105, 110, 103])]))
def laid_daybook_fault_errManifest {H : Type} : DataW H := .iface "*errors.errorString" (.ptr (.agg [.lit (.string [109, 97, 110, 105, 102, 101, 115, 116])]))
def laid_daybook_fault_errBook {H : Type} : DataW H := .iface "*errors.errorString" (.ptr (.agg [.lit (.string [98, 111, 111, 107])]))
def laid_daybook_fault_errSegs {H : Type} : DataW H := .iface "*errors.errorString" (.ptr (.agg [.lit (.string [115, 101, 103, 109, 101, 110, 116, 115])]))
def laid_daybook_fault_errNums {H : Type} : DataW H := .iface "*errors.errorString" (.ptr (.agg [.lit (.string [110, 117, 109, 98, 101, 114, 115])]))
def laid_daybook_fault_errSeq {H : Type} : DataW H := .iface "*errors.errorString" (.ptr (.agg [.lit (.string [115, 101, 113, 117, 101, 110, 99, 101])]))
def laid_daybook_fault_errEmpty {H : Type} : DataW H := .iface "*errors.errorString" (.ptr (.agg [.lit (.string [101, 109, 112, 116, 121])]))
def laid_daybook_fault_errNoSnap {H : Type} : DataW H := .iface "*errors.errorString" (.ptr (.agg [.lit (.string [110, 111, 32, 115, 110, 97, 112, 115, 104, 111, 116])]))
def laid_daybook_fault_errCompacted {H : Type} : DataW H := .iface "*errors.errorString" (.ptr (.agg [.lit (.string [99, 111, 109, 112, 97, 99, 116, 101, 100])]))
def laid_daybook_fault_errLine {H : Type} : DataW H := .iface "*errors.errorString" (.ptr (.agg [.lit (.string [108, 105, 110, 101])]))
def laid_daybook_fault_errWord {H : Type} : DataW H := .iface "*errors.errorString" (.ptr (.agg [.lit (.string [119, 111, 114, 100])]))
def laid_daybook_fault_errLines {H : Type} : DataW H := .iface "*errors.errorString" (.ptr (.agg [.lit (.string [108, 105, 110, 101, 115])]))
def laid_daybook_fault_errOut {H : Type} : DataW H := .iface "*errors.errorString" (.ptr (.agg [.lit (.string [111, 117, 116, 112, 117, 116])]))

/-- 'daybooklaw22.AuditWords': WHATEVER THE INPUT: true; the input reads as it did. -/
def auditWordsSpec : ChangeSpec := { name := "auditWords", fn := fun _ => fun
  | [d] => { results := [.lit (.bool true)], args := [d] }
  | _ => none }
def auditWordsRow : OpenClaim := { program := "ytdjldbhglaohkaadoor", sum := "e15a20b0182d902c50d93f4d29dc1ffc666367df96de02c5f862167fc7225f67", func := "daybook/daybooklaw22.AuditWords", spec := "auditWords", unfollowed := true, recurses := true, named := ["internal/strconv.uint64pow10", "math/bits.deBruijn32tab", "math/bits.deBruijn64tab", "daybook/fault.errArg", "daybook/fault.errClosed", "daybook/fault.errDown", "daybook/fault.errCorrupt", "daybook/fault.errShort", "daybook/fault.errLong", "daybook/fault.errWide", "daybook/fault.errTag", "daybook/fault.errOrder", "daybook/fault.errZero", "daybook/fault.errText", "daybook/fault.errBig", "daybook/fault.errVersion", "daybook/fault.errKind", "daybook/fault.errField", "daybook/fault.errForm", "daybook/fault.errState", "daybook/fault.errName", "daybook/fault.errNoFile", "daybook/fault.errExists", "daybook/fault.errFiles", "daybook/fault.errFull", "daybook/fault.errTorn", "daybook/fault.errMark", "daybook/fault.errSum", "daybook/fault.errRange", "daybook/fault.errIndex", "daybook/fault.errHeader", "daybook/fault.errSealed", "daybook/fault.errMissing", "daybook/fault.errManifest", "daybook/fault.errBook", "daybook/fault.errSegs", "daybook/fault.errNums", "daybook/fault.errSeq", "daybook/fault.errEmpty", "daybook/fault.errNoSnap", "daybook/fault.errCompacted", "daybook/fault.errLine", "daybook/fault.errWord", "daybook/fault.errLines", "daybook/fault.errOut"], apart := false, laid := [("math/bits.deBruijn32tab", laid_math_bits_deBruijn32tab), ("math/bits.deBruijn64tab", laid_math_bits_deBruijn64tab), ("internal/strconv.uint64pow10", laid_internal_strconv_uint64pow10), ("daybook/fault.errArg", laid_daybook_fault_errArg), ("daybook/fault.errClosed", laid_daybook_fault_errClosed), ("daybook/fault.errDown", laid_daybook_fault_errDown), ("daybook/fault.errCorrupt", laid_daybook_fault_errCorrupt), ("daybook/fault.errShort", laid_daybook_fault_errShort), ("daybook/fault.errLong", laid_daybook_fault_errLong), ("daybook/fault.errWide", laid_daybook_fault_errWide), ("daybook/fault.errTag", laid_daybook_fault_errTag), ("daybook/fault.errOrder", laid_daybook_fault_errOrder), ("daybook/fault.errZero", laid_daybook_fault_errZero), ("daybook/fault.errText", laid_daybook_fault_errText), ("daybook/fault.errBig", laid_daybook_fault_errBig), ("daybook/fault.errVersion", laid_daybook_fault_errVersion), ("daybook/fault.errKind", laid_daybook_fault_errKind), ("daybook/fault.errField", laid_daybook_fault_errField), ("daybook/fault.errForm", laid_daybook_fault_errForm), ("daybook/fault.errState", laid_daybook_fault_errState), ("daybook/fault.errName", laid_daybook_fault_errName), ("daybook/fault.errNoFile", laid_daybook_fault_errNoFile), ("daybook/fault.errExists", laid_daybook_fault_errExists), ("daybook/fault.errFiles", laid_daybook_fault_errFiles), ("daybook/fault.errFull", laid_daybook_fault_errFull), ("daybook/fault.errTorn", laid_daybook_fault_errTorn), ("daybook/fault.errMark", laid_daybook_fault_errMark), ("daybook/fault.errSum", laid_daybook_fault_errSum), ("daybook/fault.errRange", laid_daybook_fault_errRange), ("daybook/fault.errIndex", laid_daybook_fault_errIndex), ("daybook/fault.errHeader", laid_daybook_fault_errHeader), ("daybook/fault.errSealed", laid_daybook_fault_errSealed), ("daybook/fault.errMissing", laid_daybook_fault_errMissing), ("daybook/fault.errManifest", laid_daybook_fault_errManifest), ("daybook/fault.errBook", laid_daybook_fault_errBook), ("daybook/fault.errSegs", laid_daybook_fault_errSegs), ("daybook/fault.errNums", laid_daybook_fault_errNums), ("daybook/fault.errSeq", laid_daybook_fault_errSeq), ("daybook/fault.errEmpty", laid_daybook_fault_errEmpty), ("daybook/fault.errNoSnap", laid_daybook_fault_errNoSnap), ("daybook/fault.errCompacted", laid_daybook_fault_errCompacted), ("daybook/fault.errLine", laid_daybook_fault_errLine), ("daybook/fault.errWord", laid_daybook_fault_errWord), ("daybook/fault.errLines", laid_daybook_fault_errLines), ("daybook/fault.errOut", laid_daybook_fault_errOut)] }
def AuditWordsSaid : Prop := auditWordsRow.holds Tryd.pinned (OpenSpec.ofChange auditWordsSpec)

/-- ITS FALSE NEIGHBOUR: 'it returns false'. Refute it at one input. -/
def auditWordsWrong : ChangeSpec := { name := "auditWords", fn := fun _ => fun
  | [d] => { results := [.lit (.bool false)], args := [d] }
  | _ => none }
def AuditWordsWrongFalsely : Prop := auditWordsRow.holds Tryd.pinned (OpenSpec.ofChange auditWordsWrong)

/- THE SECOND FORM. 'bulk': how many values and letters a reading holds, each counted each time it is reached (what is shared counts as often as it is met; a slice's spare places count too). A statement '..UptoSaid' is the law's where the arguments, and the package variables that the reading takes, are together of bulk at most 1048576: NARROWER than '..Said'. Prove '..Said' where nothing that the law and all that it calls make is longer than what came in: it says more and counts as full. Else prove '..UptoSaid'. A law counts once. -/
mutual
def uptoBulk {H : Type} : DataW H → Nat
  | .lit (.string bytes) => bytes.length + 1
  | .lit _ => 1
  | .nil => 1
  | .ptr d => uptoBulk d + 1
  | .slice elems spare => uptoBulkAll elems + uptoBulkAll spare + 1
  | .agg parts => uptoBulkAll parts + 1
  | .iface _ d => uptoBulk d + 1
  | .map entries => uptoBulkEntries entries + 1
  | .held _ => 1
def uptoBulkAll {H : Type} : List (DataW H) → Nat
  | [] => 0
  | d :: r => uptoBulk d + uptoBulkAll r
def uptoBulkEntries {H : Type} : List (Lit × DataW H) → Nat
  | [] => 0
  | x :: r => uptoBulkEntry x + uptoBulkEntries r
def uptoBulkEntry {H : Type} : Lit × DataW H → Nat
  | (.string bytes, d) => bytes.length + uptoBulk d + 1
  | (_, d) => uptoBulk d + 1
 end
def uptoSmall : (H : Type) → List (DataW H) → Bool := fun _ ds => decide (uptoBulkAll ds ≤ 1048576)
def OpenSpec.upto (s : _root_.Go.ChangeSpec) : _root_.Go.OpenSpec := { _root_.Go.OpenSpec.ofChange s with cond := some uptoSmall }

/-- 'daybooklaw22.AuditWords', WHERE WHAT IT READS IS OF BULK AT MOST 1048576: true; the input reads as it did. -/
def auditWordsUptoRow : OpenClaim := { program := "ytdjldbhglaohkaadoor", sum := "e15a20b0182d902c50d93f4d29dc1ffc666367df96de02c5f862167fc7225f67", func := "daybook/daybooklaw22.AuditWords", spec := "auditWords", unfollowed := true, recurses := true, named := ["internal/strconv.uint64pow10", "math/bits.deBruijn32tab", "math/bits.deBruijn64tab", "daybook/fault.errArg", "daybook/fault.errClosed", "daybook/fault.errDown", "daybook/fault.errCorrupt", "daybook/fault.errShort", "daybook/fault.errLong", "daybook/fault.errWide", "daybook/fault.errTag", "daybook/fault.errOrder", "daybook/fault.errZero", "daybook/fault.errText", "daybook/fault.errBig", "daybook/fault.errVersion", "daybook/fault.errKind", "daybook/fault.errField", "daybook/fault.errForm", "daybook/fault.errState", "daybook/fault.errName", "daybook/fault.errNoFile", "daybook/fault.errExists", "daybook/fault.errFiles", "daybook/fault.errFull", "daybook/fault.errTorn", "daybook/fault.errMark", "daybook/fault.errSum", "daybook/fault.errRange", "daybook/fault.errIndex", "daybook/fault.errHeader", "daybook/fault.errSealed", "daybook/fault.errMissing", "daybook/fault.errManifest", "daybook/fault.errBook", "daybook/fault.errSegs", "daybook/fault.errNums", "daybook/fault.errSeq", "daybook/fault.errEmpty", "daybook/fault.errNoSnap", "daybook/fault.errCompacted", "daybook/fault.errLine", "daybook/fault.errWord", "daybook/fault.errLines", "daybook/fault.errOut"], apart := false, laid := [("math/bits.deBruijn32tab", laid_math_bits_deBruijn32tab), ("math/bits.deBruijn64tab", laid_math_bits_deBruijn64tab), ("internal/strconv.uint64pow10", laid_internal_strconv_uint64pow10), ("daybook/fault.errArg", laid_daybook_fault_errArg), ("daybook/fault.errClosed", laid_daybook_fault_errClosed), ("daybook/fault.errDown", laid_daybook_fault_errDown), ("daybook/fault.errCorrupt", laid_daybook_fault_errCorrupt), ("daybook/fault.errShort", laid_daybook_fault_errShort), ("daybook/fault.errLong", laid_daybook_fault_errLong), ("daybook/fault.errWide", laid_daybook_fault_errWide), ("daybook/fault.errTag", laid_daybook_fault_errTag), ("daybook/fault.errOrder", laid_daybook_fault_errOrder), ("daybook/fault.errZero", laid_daybook_fault_errZero), ("daybook/fault.errText", laid_daybook_fault_errText), ("daybook/fault.errBig", laid_daybook_fault_errBig), ("daybook/fault.errVersion", laid_daybook_fault_errVersion), ("daybook/fault.errKind", laid_daybook_fault_errKind), ("daybook/fault.errField", laid_daybook_fault_errField), ("daybook/fault.errForm", laid_daybook_fault_errForm), ("daybook/fault.errState", laid_daybook_fault_errState), ("daybook/fault.errName", laid_daybook_fault_errName), ("daybook/fault.errNoFile", laid_daybook_fault_errNoFile), ("daybook/fault.errExists", laid_daybook_fault_errExists), ("daybook/fault.errFiles", laid_daybook_fault_errFiles), ("daybook/fault.errFull", laid_daybook_fault_errFull), ("daybook/fault.errTorn", laid_daybook_fault_errTorn), ("daybook/fault.errMark", laid_daybook_fault_errMark), ("daybook/fault.errSum", laid_daybook_fault_errSum), ("daybook/fault.errRange", laid_daybook_fault_errRange), ("daybook/fault.errIndex", laid_daybook_fault_errIndex), ("daybook/fault.errHeader", laid_daybook_fault_errHeader), ("daybook/fault.errSealed", laid_daybook_fault_errSealed), ("daybook/fault.errMissing", laid_daybook_fault_errMissing), ("daybook/fault.errManifest", laid_daybook_fault_errManifest), ("daybook/fault.errBook", laid_daybook_fault_errBook), ("daybook/fault.errSegs", laid_daybook_fault_errSegs), ("daybook/fault.errNums", laid_daybook_fault_errNums), ("daybook/fault.errSeq", laid_daybook_fault_errSeq), ("daybook/fault.errEmpty", laid_daybook_fault_errEmpty), ("daybook/fault.errNoSnap", laid_daybook_fault_errNoSnap), ("daybook/fault.errCompacted", laid_daybook_fault_errCompacted), ("daybook/fault.errLine", laid_daybook_fault_errLine), ("daybook/fault.errWord", laid_daybook_fault_errWord), ("daybook/fault.errLines", laid_daybook_fault_errLines), ("daybook/fault.errOut", laid_daybook_fault_errOut)], narrowed := true }
def AuditWordsUptoSaid : Prop := auditWordsUptoRow.holds Tryd.pinned (OpenSpec.upto auditWordsSpec)

end Rows
end Go.Proofs.YtdjldbhglaohkaaDoor
