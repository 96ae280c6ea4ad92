/- Own texts, joined: Sd3. -/
import Derived.Test.YtofealmjggpacaaDoorJ16
import Derived.Test.YtofealmjggpacaaDoorJ32
namespace Go.Proofs.YtofealmjggpacaaDoor
open Go.ChangeShapes Go.WideShapes Go.ChangeAt Go.RowKit
set_option linter.unusedVariables false
def wputs (S : List Fld × Int × Nat) (Fs : List Fld) : List Fld × Int × Nat := Fs.foldl wp1 S
/-- the ten fields of an event -/
abbrev tenF (k o i u p c t : Nat) (who : List Nat) (s : Nat) (note : List Nat) : List Fld := [⟨1, false, k, []⟩, ⟨2, false, o, []⟩, ⟨3, false, i, []⟩, ⟨4, false, u, []⟩, ⟨5, false, p, []⟩, ⟨6, false, c, []⟩, ⟨7, false, t, []⟩, ⟨8, true, 0, who⟩, ⟨9, false, s, []⟩, ⟨10, true, 0, note⟩]
theorem m_putq1 (w : World) : (method 320 159 (.agg #[.int .i64 0, .int .i64 0, .int .i64 0, .int .i64 0, .int .i64 0]) "daybook/schema.putQty").run Tryd.prog w = .ok (133, .agg #[.int .i64 0, .int .i64 0, .int .i64 0, .int .i64 0, .int .i64 0]) w := by kernel_rfl
theorem m_putq2 (w : World) : (method 320 161 (.agg #[.int .i64 0, .int .i64 0, .int .i64 0, .int .i64 0, .int .i64 0, .int .i64 0]) "daybook/schema.putQty").run Tryd.prog w = .ok (133, .agg #[.int .i64 0, .int .i64 0, .int .i64 0, .int .i64 0, .int .i64 0]) w := by kernel_rfl
theorem m_putq3 (w : World) : (method 320 163 (.agg #[.int .i64 0, .int .i64 0, .int .i64 0, .int .i64 0, .int .i64 0, .int .i64 0, .int .i64 0]) "daybook/schema.putQty").run Tryd.prog w = .ok (144, .agg #[.int .i64 0, .int .i64 0, .int .i64 0, .int .i64 0, .int .i64 0, .int .i64 0, .int .i64 0]) w := by kernel_rfl
theorem m_putq4 (w : World) : (method 320 165 (.agg #[.int .i64 0, .int .i64 0, .int .i64 0, .int .i64 0, .int .i64 0, .int .i64 0, .int .i64 0, .string ⟨#[]⟩]) "daybook/schema.putQty").run Tryd.prog w = .ok (144, .agg #[.int .i64 0, .int .i64 0, .int .i64 0, .int .i64 0, .int .i64 0, .int .i64 0, .int .i64 0]) w := by kernel_rfl
theorem m_putq5 (w : World) : (method 320 167 (.agg #[.int .i64 0, .int .i64 0, .int .i64 0, .int .i64 0, .int .i64 0, .int .i64 0, .int .i64 0, .string ⟨#[]⟩, .int .i64 0, .string ⟨#[]⟩]) "daybook/schema.putQty").run Tryd.prog w = .ok (144, .agg #[.int .i64 0, .int .i64 0, .int .i64 0, .int .i64 0, .int .i64 0, .int .i64 0, .int .i64 0]) w := by kernel_rfl
theorem wrapN {k : Nat} (h : k ≤ 18446744073709551615) : IntKind.u64.wrap (k : Int) = (k : Int) := by rw [IntKind.wrap_u64]; omega
/-- what schema.Encode answers of a right event -/
def EncPost (w : World) (fs : List Fld) (r : Ending) (w' : World) : Prop := ∃ v', r = .returned (.tuple #[v', .int .i64 ((encs fs 0 []).2 : Int)]) ∧ Own w' w.heap.size v' (encs fs 0 []).1 ∧ Below w.heap.size w w'
theorem Wst.new {w w3 : World} {E : Ev} {q : Nat} (h : WrAt w3 (q + 1) q (.slice none 0 0) [] 0 0) (he : EvAt w3 w.heap.size E) (hb : Below w.heap.size w w3) (hq : w.heap.size < q) : Wst w w3 q w.heap.size E ([], 0, 0) 0 [] :=
  ⟨⟨_, _, h, rfl, by simp, by simp⟩, by simp, he, hq, by simp, hb, Nat.le_refl _⟩
theorem evc {w : World} {b : Nat} {E : Ev} {k o i p c t s : Nat} {qty : Int} {who note : ByteArray} (h : EvAt w b E) (hE : E = ⟨k, o, i, qty, p, c, t, who, s, note⟩) : w.cell? ⟨b, 0, none⟩ = some (.int .i64 (k : Int)) ∧ w.cell? ⟨b, 1, none⟩ = some (.int .i64 (o : Int)) ∧ w.cell? ⟨b, 2, none⟩ = some (.int .i64 (i : Int)) ∧ w.cell? ⟨b, 3, none⟩ = some (.int .i64 qty) ∧ w.cell? ⟨b, 4, none⟩ = some (.int .i64 (p : Int)) ∧ w.cell? ⟨b, 5, none⟩ = some (.int .i64 (c : Int)) ∧ w.cell? ⟨b, 6, none⟩ = some (.int .i64 (t : Int)) ∧ w.cell? ⟨b, 7, none⟩ = some (.string who) ∧ w.cell? ⟨b, 8, none⟩ = some (.int .i64 (s : Int)) ∧ w.cell? ⟨b, 9, none⟩ = some (.string note) := by
  subst hE; exact h.cells
end Go.Proofs.YtofealmjggpacaaDoor
