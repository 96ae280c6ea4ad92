/- Own texts, joined: Find, Bnd. -/
import Derived.Test.YtfdaefhamoeaiaaK00
import Derived.Deep.QuietTactic
import Derived.BigQuiet
import Derived.Deep.RegionHeld3
namespace Go.Proofs.Ytfdaefhamoeaiaa
open Go.ChangeShapes Go.WideShapes Go.ChangeAt Go.RowKit
/-- the value of a version: no field but noughts -/
def verV : Int → Value
  | 1 => .iface 123 (.agg #[.int .i64 0, .int .i64 0, .int .i64 0, .int .i64 0, .int .i64 0])
  | 2 => .iface 125 (.agg #[.int .i64 0, .int .i64 0, .int .i64 0, .int .i64 0, .int .i64 0, .int .i64 0])
  | 3 => .iface 127 (.agg #[.int .i64 0, .int .i64 0, .int .i64 0, .int .i64 0, .int .i64 0, .int .i64 0, .int .i64 0])
  | 4 => .iface 129 (.agg #[.int .i64 0, .int .i64 0, .int .i64 0, .int .i64 0, .int .i64 0, .int .i64 0, .int .i64 0, .string ⟨#[]⟩])
  | _ => .iface 131 (.agg #[.int .i64 0, .int .i64 0, .int .i64 0, .int .i64 0, .int .i64 0, .int .i64 0, .int .i64 0, .string ⟨#[]⟩, .int .i64 0, .string ⟨#[]⟩])
set_option maxRecDepth 20000 in
theorem find_no (v : Int) (w : World) (h : v < 1 ∨ 5 < v) :
    Calls Try.prog 66 #[.int .i64 v] w fun e w' => e = .returned (.tuple #[.nilIface, .bool false]) ∧ w = w' := by
  have h1 : (v == 1) = false := by simp; omega
  have h2 : (v == 2) = false := by simp; omega
  have h3 : (v == 3) = false := by simp; omega
  have h4 : (v == 4) = false := by simp; omega
  have h5 : (v == 5) = false := by simp; omega
  clear h
  go_enter Try.func66, Try.ntmps66
  go_wp2
  go_ret2
  exact ⟨rfl, rfl⟩
set_option maxRecDepth 20000 in
theorem find_yes (v : Int) (w : World) (h1 : 1 ≤ v) (h2 : v ≤ 5) :
    Calls Try.prog 66 #[.int .i64 v] w fun e w' => e = .returned (.tuple #[verV v, .bool true]) ∧ w = w' := by
  have h : v = 1 ∨ v = 2 ∨ v = 3 ∨ v = 4 ∨ v = 5 := by omega
  clear h1 h2
  rcases h with rfl | rfl | rfl | rfl | rfl
  all_goals
    go_enter Try.func66, Try.ntmps66
    go_wp2
    go_ret2
    exact ⟨rfl, rfl⟩
end Go.Proofs.Ytfdaefhamoeaiaa
namespace Go.Proofs.Ytfdaefhamoeaiaa
open Go.ChangeShapes Go.WideShapes Go.ChangeAt Go.RowKit
theorem ev_cell {w w2 : World} {C : Array Value} {T : TypeId} (h : Below (w.heap.size + 1) (w.alloc (.cells C T)) w2) (i : Nat) (v : Value) (hv : C[i]? = some v) : w2.cell? ⟨w.heap.size, i, none⟩ = some v := by
  rw [h.cell (p := ⟨w.heap.size, i, none⟩) (Nat.lt_succ_self _)]
  rw [cell_of_row (w.alloc (.cells C T)) w.heap.size i C T (0, 0) (heap_alloc_new w _)]
  exact hv
theorem quiet_val {P : Program} {o : Oper} {a : Act} {C : World → Prop} {K : Act → Prop} {v : Value} (h : ∀ w, C w → (execOp a.eval o).run P w = .ok (.value v) w) (hk : K (a.put o.dst v)) : o.quiet P a C K :=
  ⟨v, fun w hw => by unfold Oper.quietAt; rw [h w hw]; exact ⟨rfl, rfl⟩, hk⟩
theorem quiet_call {P : Program} {o : Oper} {a : Act} {C : World → Prop} {K : Act → Prop} {v : Value} {f : FuncId} {args : Array Value} (h : ∀ w, C w → (execOp a.eval o).run P w = .ok (.enter f args) w) (hc : ∀ w, C w → Calls P f args w fun e w' => e = .returned v ∧ C w') (hk : K (a.put o.dst v)) : o.quiet P a C K :=
  ⟨v, fun w hw => by unfold Oper.quietAt; rw [h w hw]; exact ⟨rfl, hc w hw⟩, hk⟩
theorem ev_below {w w2 : World} {O : Obj} (h : Below (w.heap.size + 1) (w.alloc O) w2) : Below w.heap.size w w2 :=
  ((Below.refl _ _).alloc (Nat.le_refl _) O).trans (h.mono (by omega))
/-- a condition on worlds: the event lies in the block that was laid for it, and nothing older has turned -/
theorem ev_held (w : World) (k o i q p c t : Int) (wh : ByteArray) (s : Int) (n : ByteArray) : ∃ E : World → Prop, E (w.alloc (.cells #[.int .i64 k, .int .i64 o, .int .i64 i, .int .i64 q, .int .i64 p, .int .i64 c, .int .i64 t, .string wh, .int .i64 s, .string n] 89)) ∧ E (w.alloc (.cells #[.int .i64 k, .int .i64 o, .int .i64 i, .int .i64 q, .int .i64 p, .int .i64 c, .int .i64 t, .string wh, .int .i64 s, .string n] 89)).drew ∧ (∀ w1 w2, E w1 → Below w1.heap.size w1 w2 → E w2) ∧ (∀ w2, E w2 → Below w.heap.size w w2) ∧ (∀ w2, E w2 → w.heap.size < w2.heap.size) ∧ (∀ w2, E w2 → w2.cell? ⟨w.heap.size, 0, none⟩ = some (.int .i64 k)) ∧ (∀ w2, E w2 → w2.cell? ⟨w.heap.size, 1, none⟩ = some (.int .i64 o)) ∧ (∀ w2, E w2 → w2.cell? ⟨w.heap.size, 2, none⟩ = some (.int .i64 i)) ∧ (∀ w2, E w2 → w2.cell? ⟨w.heap.size, 3, none⟩ = some (.int .i64 q)) ∧ (∀ w2, E w2 → w2.cell? ⟨w.heap.size, 4, none⟩ = some (.int .i64 p)) ∧ (∀ w2, E w2 → w2.cell? ⟨w.heap.size, 5, none⟩ = some (.int .i64 c)) ∧ (∀ w2, E w2 → w2.cell? ⟨w.heap.size, 6, none⟩ = some (.int .i64 t)) ∧ (∀ w2, E w2 → w2.cell? ⟨w.heap.size, 7, none⟩ = some (.string wh)) ∧ (∀ w2, E w2 → w2.cell? ⟨w.heap.size, 8, none⟩ = some (.int .i64 s)) ∧ (∀ w2, E w2 → w2.cell? ⟨w.heap.size, 9, none⟩ = some (.string n)) := by
  refine ⟨fun w2 => Below (w.heap.size + 1) (w.alloc (.cells #[.int .i64 k, .int .i64 o, .int .i64 i, .int .i64 q, .int .i64 p, .int .i64 c, .int .i64 t, .string wh, .int .i64 s, .string n] 89)) w2, Below.refl _ _, (Below.refl _ _).drew, fun w1 w2 h h2 => h.trans (h2.mono ?_), fun w2 h => ev_below h, fun w2 h => ?_, fun w2 h => ev_cell h 0 _ rfl, fun w2 h => ev_cell h 1 _ rfl, fun w2 h => ev_cell h 2 _ rfl, fun w2 h => ev_cell h 3 _ rfl, fun w2 h => ev_cell h 4 _ rfl, fun w2 h => ev_cell h 5 _ rfl, fun w2 h => ev_cell h 6 _ rfl, fun w2 h => ev_cell h 7 _ rfl, fun w2 h => ev_cell h 8 _ rfl, fun w2 h => ev_cell h 9 _ rfl⟩
  · have := h.size
    simpa using this
  · have := h.size
    simp at this
    omega
set_option maxRecDepth 20000 in
theorem v1_least (v : Array Value) (w : World) : Calls Try.prog 96 #[.agg v] w fun e w' => e = .returned (.int .i64 (-10000)) ∧ Below w.heap.size w w' := by
  go_enter Try.func96, Try.ntmps96
  go_wp2
  go_ret
  exact ⟨rfl, (Below.refl _ _).alloc (Nat.le_refl _) _⟩
set_option maxRecDepth 20000 in
theorem v3_least (v : Array Value) (w : World) : Calls Try.prog 104 #[.agg v] w fun e w' => e = .returned (.int .i64 (0)) ∧ Below w.heap.size w w' := by
  go_enter Try.func104, Try.ntmps104
  go_wp2
  go_ret
  exact ⟨rfl, (Below.refl _ _).alloc (Nat.le_refl _) _⟩
set_option maxRecDepth 20000 in
theorem v1_most (v : Array Value) (w : World) : Calls Try.prog 97 #[.agg v] w fun e w' => e = .returned (.int .i64 (1000000)) ∧ Below w.heap.size w w' := by
  go_enter Try.func97, Try.ntmps97
  go_wp2
  go_ret
  exact ⟨rfl, (Below.refl _ _).alloc (Nat.le_refl _) _⟩
set_option maxRecDepth 20000 in
theorem v2_most (v : Array Value) (w : World) : Calls Try.prog 101 #[.agg v] w fun e w' => e = .returned (.int .i64 (100000000)) ∧ Below w.heap.size w w' := by
  go_enter Try.func101, Try.ntmps101
  go_wp2
  go_ret
  exact ⟨rfl, (Below.refl _ _).alloc (Nat.le_refl _) _⟩
set_option maxRecDepth 20000 in
theorem v1_last (v : Array Value) (w : World) : Calls Try.prog 95 #[.agg v] w fun e w' => e = .returned (.int .i64 (5)) ∧ Below w.heap.size w w' := by
  go_enter Try.func95, Try.ntmps95
  go_wp2
  go_ret
  exact ⟨rfl, (Below.refl _ _).alloc (Nat.le_refl _) _⟩
set_option maxRecDepth 20000 in
theorem v3_last (v : Array Value) (w : World) : Calls Try.prog 103 #[.agg v] w fun e w' => e = .returned (.int .i64 (7)) ∧ Below w.heap.size w w' := by
  go_enter Try.func103, Try.ntmps103
  go_wp2
  go_ret
  exact ⟨rfl, (Below.refl _ _).alloc (Nat.le_refl _) _⟩
set_option maxRecDepth 20000 in
theorem v4_last (v : Array Value) (w : World) : Calls Try.prog 108 #[.agg v] w fun e w' => e = .returned (.int .i64 (9)) ∧ Below w.heap.size w w' := by
  go_enter Try.func108, Try.ntmps108
  go_wp2
  go_ret
  exact ⟨rfl, (Below.refl _ _).alloc (Nat.le_refl _) _⟩
set_option maxRecDepth 20000 in
theorem v5_last (v : Array Value) (w : World) : Calls Try.prog 110 #[.agg v] w fun e w' => e = .returned (.int .i64 (10)) ∧ Below w.heap.size w w' := by
  go_enter Try.func110, Try.ntmps110
  go_wp2
  go_ret
  exact ⟨rfl, (Below.refl _ _).alloc (Nat.le_refl _) _⟩
theorem m_least1 (w : World) : (method 257 123 (.agg #[.int .i64 0, .int .i64 0, .int .i64 0, .int .i64 0, .int .i64 0]) "daybook/schema.leastQty").run Try.prog w = .ok (96, .agg #[.int .i64 0, .int .i64 0, .int .i64 0, .int .i64 0, .int .i64 0]) w := by kernel_rfl
theorem m_least2 (w : World) : (method 257 125 (.agg #[.int .i64 0, .int .i64 0, .int .i64 0, .int .i64 0, .int .i64 0, .int .i64 0]) "daybook/schema.leastQty").run Try.prog w = .ok (96, .agg #[.int .i64 0, .int .i64 0, .int .i64 0, .int .i64 0, .int .i64 0]) w := by kernel_rfl
theorem m_least3 (w : World) : (method 257 127 (.agg #[.int .i64 0, .int .i64 0, .int .i64 0, .int .i64 0, .int .i64 0, .int .i64 0, .int .i64 0]) "daybook/schema.leastQty").run Try.prog w = .ok (104, .agg #[.int .i64 0, .int .i64 0, .int .i64 0, .int .i64 0, .int .i64 0, .int .i64 0, .int .i64 0]) w := by kernel_rfl
theorem m_least4 (w : World) : (method 257 129 (.agg #[.int .i64 0, .int .i64 0, .int .i64 0, .int .i64 0, .int .i64 0, .int .i64 0, .int .i64 0, .string ⟨#[]⟩]) "daybook/schema.leastQty").run Try.prog w = .ok (104, .agg #[.int .i64 0, .int .i64 0, .int .i64 0, .int .i64 0, .int .i64 0, .int .i64 0, .int .i64 0]) w := by kernel_rfl
theorem m_least5 (w : World) : (method 257 131 (.agg #[.int .i64 0, .int .i64 0, .int .i64 0, .int .i64 0, .int .i64 0, .int .i64 0, .int .i64 0, .string ⟨#[]⟩, .int .i64 0, .string ⟨#[]⟩]) "daybook/schema.leastQty").run Try.prog w = .ok (104, .agg #[.int .i64 0, .int .i64 0, .int .i64 0, .int .i64 0, .int .i64 0, .int .i64 0, .int .i64 0]) w := by kernel_rfl
theorem m_most1 (w : World) : (method 257 123 (.agg #[.int .i64 0, .int .i64 0, .int .i64 0, .int .i64 0, .int .i64 0]) "daybook/schema.mostPrice").run Try.prog w = .ok (97, .agg #[.int .i64 0, .int .i64 0, .int .i64 0, .int .i64 0, .int .i64 0]) w := by kernel_rfl
theorem m_most2 (w : World) : (method 257 125 (.agg #[.int .i64 0, .int .i64 0, .int .i64 0, .int .i64 0, .int .i64 0, .int .i64 0]) "daybook/schema.mostPrice").run Try.prog w = .ok (101, .agg #[.int .i64 0, .int .i64 0, .int .i64 0, .int .i64 0, .int .i64 0, .int .i64 0]) w := by kernel_rfl
theorem m_most3 (w : World) : (method 257 127 (.agg #[.int .i64 0, .int .i64 0, .int .i64 0, .int .i64 0, .int .i64 0, .int .i64 0, .int .i64 0]) "daybook/schema.mostPrice").run Try.prog w = .ok (101, .agg #[.int .i64 0, .int .i64 0, .int .i64 0, .int .i64 0, .int .i64 0, .int .i64 0]) w := by kernel_rfl
theorem m_most4 (w : World) : (method 257 129 (.agg #[.int .i64 0, .int .i64 0, .int .i64 0, .int .i64 0, .int .i64 0, .int .i64 0, .int .i64 0, .string ⟨#[]⟩]) "daybook/schema.mostPrice").run Try.prog w = .ok (101, .agg #[.int .i64 0, .int .i64 0, .int .i64 0, .int .i64 0, .int .i64 0, .int .i64 0]) w := by kernel_rfl
theorem m_most5 (w : World) : (method 257 131 (.agg #[.int .i64 0, .int .i64 0, .int .i64 0, .int .i64 0, .int .i64 0, .int .i64 0, .int .i64 0, .string ⟨#[]⟩, .int .i64 0, .string ⟨#[]⟩]) "daybook/schema.mostPrice").run Try.prog w = .ok (101, .agg #[.int .i64 0, .int .i64 0, .int .i64 0, .int .i64 0, .int .i64 0, .int .i64 0]) w := by kernel_rfl
theorem m_last1 (w : World) : (method 257 123 (.agg #[.int .i64 0, .int .i64 0, .int .i64 0, .int .i64 0, .int .i64 0]) "daybook/schema.lastKind").run Try.prog w = .ok (95, .agg #[.int .i64 0, .int .i64 0, .int .i64 0, .int .i64 0, .int .i64 0]) w := by kernel_rfl
theorem m_last2 (w : World) : (method 257 125 (.agg #[.int .i64 0, .int .i64 0, .int .i64 0, .int .i64 0, .int .i64 0, .int .i64 0]) "daybook/schema.lastKind").run Try.prog w = .ok (95, .agg #[.int .i64 0, .int .i64 0, .int .i64 0, .int .i64 0, .int .i64 0]) w := by kernel_rfl
theorem m_last3 (w : World) : (method 257 127 (.agg #[.int .i64 0, .int .i64 0, .int .i64 0, .int .i64 0, .int .i64 0, .int .i64 0, .int .i64 0]) "daybook/schema.lastKind").run Try.prog w = .ok (103, .agg #[.int .i64 0, .int .i64 0, .int .i64 0, .int .i64 0, .int .i64 0, .int .i64 0, .int .i64 0]) w := by kernel_rfl
theorem m_last4 (w : World) : (method 257 129 (.agg #[.int .i64 0, .int .i64 0, .int .i64 0, .int .i64 0, .int .i64 0, .int .i64 0, .int .i64 0, .string ⟨#[]⟩]) "daybook/schema.lastKind").run Try.prog w = .ok (108, .agg #[.int .i64 0, .int .i64 0, .int .i64 0, .int .i64 0, .int .i64 0, .int .i64 0, .int .i64 0, .string ⟨#[]⟩]) w := by kernel_rfl
theorem m_last5 (w : World) : (method 257 131 (.agg #[.int .i64 0, .int .i64 0, .int .i64 0, .int .i64 0, .int .i64 0, .int .i64 0, .int .i64 0, .string ⟨#[]⟩, .int .i64 0, .string ⟨#[]⟩]) "daybook/schema.lastKind").run Try.prog w = .ok (110, .agg #[.int .i64 0, .int .i64 0, .int .i64 0, .int .i64 0, .int .i64 0, .int .i64 0, .int .i64 0, .string ⟨#[]⟩, .int .i64 0, .string ⟨#[]⟩]) w := by kernel_rfl
def bnd (l m o i q p c t : Int) (wh : ByteArray) (s : Int) : Bool := wit 1 o 1099511627776 && (wit 0 i 65535 && (wit l q 10000 && (wit 0 p m && (wit 0 c 3 && (wit 0 t 5000 && (plainB wh.data.toList && wit 0 s 1099511627776))))))
end Go.Proofs.Ytfdaefhamoeaiaa
