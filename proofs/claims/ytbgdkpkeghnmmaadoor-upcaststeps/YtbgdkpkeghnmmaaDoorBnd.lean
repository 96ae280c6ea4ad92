/- The methods of a version; an event that lies in memory. -/
import Derived.Test.YtbgdkpkeghnmmaaDoorFind
import Derived.Deep.QuietTactic
import Derived.BigQuiet
import Derived.Deep.RegionHeld3
namespace Go.Proofs.YtbgdkpkeghnmmaaDoor
open Go.ChangeShapes Go.WideShapes Go.ChangeAt Go.RowKit
theorem ev_cell {w w2 : World} {C : Array Value} {T : TypeId} (h : Below (w.heap.size + 1) (w.alloc (.cells C T)) w2) (i : Nat) (v : Value) (hv : C[i]? = some v) : w2.cell? ⟨w.heap.size, i, none⟩ = some v := by
  rw [h.cell (p := ⟨w.heap.size, i, none⟩) (Nat.lt_succ_self _)]
  rw [cell_of_row (w.alloc (.cells C T)) w.heap.size i C T (0, 0) (heap_alloc_new w _)]
  exact hv
theorem quiet_val {P : Program} {o : Oper} {a : Act} {C : World → Prop} {K : Act → Prop} {v : Value} (h : ∀ w, C w → (execOp a.eval o).run P w = .ok (.value v) w) (hk : K (a.put o.dst v)) : o.quiet P a C K :=
  ⟨v, fun w hw => by unfold Oper.quietAt; rw [h w hw]; exact ⟨rfl, rfl⟩, hk⟩
theorem quiet_call {P : Program} {o : Oper} {a : Act} {C : World → Prop} {K : Act → Prop} {v : Value} {f : FuncId} {args : Array Value} (h : ∀ w, C w → (execOp a.eval o).run P w = .ok (.enter f args) w) (hc : ∀ w, C w → Calls P f args w fun e w' => e = .returned v ∧ C w') (hk : K (a.put o.dst v)) : o.quiet P a C K :=
  ⟨v, fun w hw => by unfold Oper.quietAt; rw [h w hw]; exact ⟨rfl, hc w hw⟩, hk⟩
theorem ev_below {w w2 : World} {O : Obj} (h : Below (w.heap.size + 1) (w.alloc O) w2) : Below w.heap.size w w2 :=
  ((Below.refl _ _).alloc (Nat.le_refl _) O).trans (h.mono (by omega))
/-- a condition on worlds: the event lies in the block that was laid for it, and nothing older has turned -/
theorem ev_held (w : World) (k o i q p c t : Int) (wh : ByteArray) (s : Int) (n : ByteArray) : ∃ E : World → Prop, E (w.alloc (.cells #[.int .i64 k, .int .i64 o, .int .i64 i, .int .i64 q, .int .i64 p, .int .i64 c, .int .i64 t, .string wh, .int .i64 s, .string n] 24)) ∧ E (w.alloc (.cells #[.int .i64 k, .int .i64 o, .int .i64 i, .int .i64 q, .int .i64 p, .int .i64 c, .int .i64 t, .string wh, .int .i64 s, .string n] 24)).drew ∧ (∀ w1 w2, E w1 → Below w1.heap.size w1 w2 → E w2) ∧ (∀ w2, E w2 → Below w.heap.size w w2) ∧ (∀ w2, E w2 → w.heap.size < w2.heap.size) ∧ (∀ w2, E w2 → w2.cell? ⟨w.heap.size, 0, none⟩ = some (.int .i64 k)) ∧ (∀ w2, E w2 → w2.cell? ⟨w.heap.size, 1, none⟩ = some (.int .i64 o)) ∧ (∀ w2, E w2 → w2.cell? ⟨w.heap.size, 2, none⟩ = some (.int .i64 i)) ∧ (∀ w2, E w2 → w2.cell? ⟨w.heap.size, 3, none⟩ = some (.int .i64 q)) ∧ (∀ w2, E w2 → w2.cell? ⟨w.heap.size, 4, none⟩ = some (.int .i64 p)) ∧ (∀ w2, E w2 → w2.cell? ⟨w.heap.size, 5, none⟩ = some (.int .i64 c)) ∧ (∀ w2, E w2 → w2.cell? ⟨w.heap.size, 6, none⟩ = some (.int .i64 t)) ∧ (∀ w2, E w2 → w2.cell? ⟨w.heap.size, 7, none⟩ = some (.string wh)) ∧ (∀ w2, E w2 → w2.cell? ⟨w.heap.size, 8, none⟩ = some (.int .i64 s)) ∧ (∀ w2, E w2 → w2.cell? ⟨w.heap.size, 9, none⟩ = some (.string n)) := by
  refine ⟨fun w2 => Below (w.heap.size + 1) (w.alloc (.cells #[.int .i64 k, .int .i64 o, .int .i64 i, .int .i64 q, .int .i64 p, .int .i64 c, .int .i64 t, .string wh, .int .i64 s, .string n] 24)) w2, Below.refl _ _, (Below.refl _ _).drew, fun w1 w2 h h2 => h.trans (h2.mono ?_), fun w2 h => ev_below h, fun w2 h => ?_, fun w2 h => ev_cell h 0 _ rfl, fun w2 h => ev_cell h 1 _ rfl, fun w2 h => ev_cell h 2 _ rfl, fun w2 h => ev_cell h 3 _ rfl, fun w2 h => ev_cell h 4 _ rfl, fun w2 h => ev_cell h 5 _ rfl, fun w2 h => ev_cell h 6 _ rfl, fun w2 h => ev_cell h 7 _ rfl, fun w2 h => ev_cell h 8 _ rfl, fun w2 h => ev_cell h 9 _ rfl⟩
  · have := h.size
    simpa using this
  · have := h.size
    simp at this
    omega
set_option maxRecDepth 20000 in
theorem v1_least (v : Array Value) (w : World) : Calls Tryd.prog 45 #[.agg v] w fun e w' => e = .returned (.int .i64 (-10000)) ∧ Below w.heap.size w w' := by
  go_enter Tryd.func45, Tryd.ntmps45
  go_wp2
  go_ret
  exact ⟨rfl, (Below.refl _ _).alloc (Nat.le_refl _) _⟩
set_option maxRecDepth 20000 in
theorem v3_least (v : Array Value) (w : World) : Calls Tryd.prog 53 #[.agg v] w fun e w' => e = .returned (.int .i64 (0)) ∧ Below w.heap.size w w' := by
  go_enter Tryd.func53, Tryd.ntmps53
  go_wp2
  go_ret
  exact ⟨rfl, (Below.refl _ _).alloc (Nat.le_refl _) _⟩
set_option maxRecDepth 20000 in
theorem v1_most (v : Array Value) (w : World) : Calls Tryd.prog 46 #[.agg v] w fun e w' => e = .returned (.int .i64 (1000000)) ∧ Below w.heap.size w w' := by
  go_enter Tryd.func46, Tryd.ntmps46
  go_wp2
  go_ret
  exact ⟨rfl, (Below.refl _ _).alloc (Nat.le_refl _) _⟩
set_option maxRecDepth 20000 in
theorem v2_most (v : Array Value) (w : World) : Calls Tryd.prog 50 #[.agg v] w fun e w' => e = .returned (.int .i64 (100000000)) ∧ Below w.heap.size w w' := by
  go_enter Tryd.func50, Tryd.ntmps50
  go_wp2
  go_ret
  exact ⟨rfl, (Below.refl _ _).alloc (Nat.le_refl _) _⟩
set_option maxRecDepth 20000 in
theorem v1_last (v : Array Value) (w : World) : Calls Tryd.prog 44 #[.agg v] w fun e w' => e = .returned (.int .i64 (5)) ∧ Below w.heap.size w w' := by
  go_enter Tryd.func44, Tryd.ntmps44
  go_wp2
  go_ret
  exact ⟨rfl, (Below.refl _ _).alloc (Nat.le_refl _) _⟩
set_option maxRecDepth 20000 in
theorem v3_last (v : Array Value) (w : World) : Calls Tryd.prog 52 #[.agg v] w fun e w' => e = .returned (.int .i64 (7)) ∧ Below w.heap.size w w' := by
  go_enter Tryd.func52, Tryd.ntmps52
  go_wp2
  go_ret
  exact ⟨rfl, (Below.refl _ _).alloc (Nat.le_refl _) _⟩
set_option maxRecDepth 20000 in
theorem v4_last (v : Array Value) (w : World) : Calls Tryd.prog 57 #[.agg v] w fun e w' => e = .returned (.int .i64 (9)) ∧ Below w.heap.size w w' := by
  go_enter Tryd.func57, Tryd.ntmps57
  go_wp2
  go_ret
  exact ⟨rfl, (Below.refl _ _).alloc (Nat.le_refl _) _⟩
set_option maxRecDepth 20000 in
theorem v5_last (v : Array Value) (w : World) : Calls Tryd.prog 59 #[.agg v] w fun e w' => e = .returned (.int .i64 (10)) ∧ Below w.heap.size w w' := by
  go_enter Tryd.func59, Tryd.ntmps59
  go_wp2
  go_ret
  exact ⟨rfl, (Below.refl _ _).alloc (Nat.le_refl _) _⟩
theorem m_least1 (w : World) : (method 199 54 (.agg #[.int .i64 0, .int .i64 0, .int .i64 0, .int .i64 0, .int .i64 0]) "daybook/schema.leastQty").run Tryd.prog w = .ok (45, .agg #[.int .i64 0, .int .i64 0, .int .i64 0, .int .i64 0, .int .i64 0]) w := by kernel_rfl
theorem m_least2 (w : World) : (method 199 56 (.agg #[.int .i64 0, .int .i64 0, .int .i64 0, .int .i64 0, .int .i64 0, .int .i64 0]) "daybook/schema.leastQty").run Tryd.prog w = .ok (45, .agg #[.int .i64 0, .int .i64 0, .int .i64 0, .int .i64 0, .int .i64 0]) w := by kernel_rfl
theorem m_least3 (w : World) : (method 199 58 (.agg #[.int .i64 0, .int .i64 0, .int .i64 0, .int .i64 0, .int .i64 0, .int .i64 0, .int .i64 0]) "daybook/schema.leastQty").run Tryd.prog w = .ok (53, .agg #[.int .i64 0, .int .i64 0, .int .i64 0, .int .i64 0, .int .i64 0, .int .i64 0, .int .i64 0]) w := by kernel_rfl
theorem m_least4 (w : World) : (method 199 60 (.agg #[.int .i64 0, .int .i64 0, .int .i64 0, .int .i64 0, .int .i64 0, .int .i64 0, .int .i64 0, .string ⟨#[]⟩]) "daybook/schema.leastQty").run Tryd.prog w = .ok (53, .agg #[.int .i64 0, .int .i64 0, .int .i64 0, .int .i64 0, .int .i64 0, .int .i64 0, .int .i64 0]) w := by kernel_rfl
theorem m_least5 (w : World) : (method 199 62 (.agg #[.int .i64 0, .int .i64 0, .int .i64 0, .int .i64 0, .int .i64 0, .int .i64 0, .int .i64 0, .string ⟨#[]⟩, .int .i64 0, .string ⟨#[]⟩]) "daybook/schema.leastQty").run Tryd.prog w = .ok (53, .agg #[.int .i64 0, .int .i64 0, .int .i64 0, .int .i64 0, .int .i64 0, .int .i64 0, .int .i64 0]) w := by kernel_rfl
theorem m_most1 (w : World) : (method 199 54 (.agg #[.int .i64 0, .int .i64 0, .int .i64 0, .int .i64 0, .int .i64 0]) "daybook/schema.mostPrice").run Tryd.prog w = .ok (46, .agg #[.int .i64 0, .int .i64 0, .int .i64 0, .int .i64 0, .int .i64 0]) w := by kernel_rfl
theorem m_most2 (w : World) : (method 199 56 (.agg #[.int .i64 0, .int .i64 0, .int .i64 0, .int .i64 0, .int .i64 0, .int .i64 0]) "daybook/schema.mostPrice").run Tryd.prog w = .ok (50, .agg #[.int .i64 0, .int .i64 0, .int .i64 0, .int .i64 0, .int .i64 0, .int .i64 0]) w := by kernel_rfl
theorem m_most3 (w : World) : (method 199 58 (.agg #[.int .i64 0, .int .i64 0, .int .i64 0, .int .i64 0, .int .i64 0, .int .i64 0, .int .i64 0]) "daybook/schema.mostPrice").run Tryd.prog w = .ok (50, .agg #[.int .i64 0, .int .i64 0, .int .i64 0, .int .i64 0, .int .i64 0, .int .i64 0]) w := by kernel_rfl
theorem m_most4 (w : World) : (method 199 60 (.agg #[.int .i64 0, .int .i64 0, .int .i64 0, .int .i64 0, .int .i64 0, .int .i64 0, .int .i64 0, .string ⟨#[]⟩]) "daybook/schema.mostPrice").run Tryd.prog w = .ok (50, .agg #[.int .i64 0, .int .i64 0, .int .i64 0, .int .i64 0, .int .i64 0, .int .i64 0]) w := by kernel_rfl
theorem m_most5 (w : World) : (method 199 62 (.agg #[.int .i64 0, .int .i64 0, .int .i64 0, .int .i64 0, .int .i64 0, .int .i64 0, .int .i64 0, .string ⟨#[]⟩, .int .i64 0, .string ⟨#[]⟩]) "daybook/schema.mostPrice").run Tryd.prog w = .ok (50, .agg #[.int .i64 0, .int .i64 0, .int .i64 0, .int .i64 0, .int .i64 0, .int .i64 0]) w := by kernel_rfl
theorem m_last1 (w : World) : (method 199 54 (.agg #[.int .i64 0, .int .i64 0, .int .i64 0, .int .i64 0, .int .i64 0]) "daybook/schema.lastKind").run Tryd.prog w = .ok (44, .agg #[.int .i64 0, .int .i64 0, .int .i64 0, .int .i64 0, .int .i64 0]) w := by kernel_rfl
theorem m_last2 (w : World) : (method 199 56 (.agg #[.int .i64 0, .int .i64 0, .int .i64 0, .int .i64 0, .int .i64 0, .int .i64 0]) "daybook/schema.lastKind").run Tryd.prog w = .ok (44, .agg #[.int .i64 0, .int .i64 0, .int .i64 0, .int .i64 0, .int .i64 0]) w := by kernel_rfl
theorem m_last3 (w : World) : (method 199 58 (.agg #[.int .i64 0, .int .i64 0, .int .i64 0, .int .i64 0, .int .i64 0, .int .i64 0, .int .i64 0]) "daybook/schema.lastKind").run Tryd.prog w = .ok (52, .agg #[.int .i64 0, .int .i64 0, .int .i64 0, .int .i64 0, .int .i64 0, .int .i64 0, .int .i64 0]) w := by kernel_rfl
theorem m_last4 (w : World) : (method 199 60 (.agg #[.int .i64 0, .int .i64 0, .int .i64 0, .int .i64 0, .int .i64 0, .int .i64 0, .int .i64 0, .string ⟨#[]⟩]) "daybook/schema.lastKind").run Tryd.prog w = .ok (57, .agg #[.int .i64 0, .int .i64 0, .int .i64 0, .int .i64 0, .int .i64 0, .int .i64 0, .int .i64 0, .string ⟨#[]⟩]) w := by kernel_rfl
theorem m_last5 (w : World) : (method 199 62 (.agg #[.int .i64 0, .int .i64 0, .int .i64 0, .int .i64 0, .int .i64 0, .int .i64 0, .int .i64 0, .string ⟨#[]⟩, .int .i64 0, .string ⟨#[]⟩]) "daybook/schema.lastKind").run Tryd.prog w = .ok (59, .agg #[.int .i64 0, .int .i64 0, .int .i64 0, .int .i64 0, .int .i64 0, .int .i64 0, .int .i64 0, .string ⟨#[]⟩, .int .i64 0, .string ⟨#[]⟩]) w := by kernel_rfl
def bnd (l m o i q p c t : Int) (wh : ByteArray) (s : Int) : Bool := wit 1 o 1099511627776 && (wit 0 i 65535 && (wit l q 10000 && (wit 0 p m && (wit 0 c 3 && (wit 0 t 5000 && (plainB wh.data.toList && wit 0 s 1099511627776))))))
end Go.Proofs.YtbgdkpkeghnmmaaDoor
