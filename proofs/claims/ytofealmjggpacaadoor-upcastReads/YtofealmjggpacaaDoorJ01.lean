/- Own texts, joined: Bnd, BndA, BndB, BndC. -/
import Derived.Test.YtofealmjggpacaaDoorJ00
import Derived.Deep.QuietTactic
import Derived.BigQuiet
import Derived.Deep.RegionHeld3
namespace Go.Proofs.YtofealmjggpacaaDoor
open Go.ChangeShapes Go.WideShapes Go.ChangeAt Go.RowKit
theorem ev_cell {w w2 : World} {C : Array Value} {T : TypeId} (h : Below (w.heap.size + 1) (w.alloc (.cells C T)) w2) (i : Nat) (v : Value) (hv : C[i]? = some v) : w2.cell? ⟨w.heap.size, i, none⟩ = some v := by
  rw [h.cell (p := ⟨w.heap.size, i, none⟩) (Nat.lt_succ_self _)]
  rw [cell_of_row (w.alloc (.cells C T)) w.heap.size i C T (0, 0) (heap_alloc_new w _)]
  exact hv
theorem quiet_val {P : Program} {o : Oper} {a : Act} {C : World → Prop} {K : Act → Prop} {v : Value} (h : ∀ w, C w → (execOp a.eval o).run P w = .ok (.value v) w) (hk : K (a.put o.dst v)) : o.quiet P a C K :=
  ⟨v, fun w hw => by unfold Oper.quietAt; rw [h w hw]; exact ⟨rfl, rfl⟩, hk⟩
theorem quiet_call {P : Program} {o : Oper} {a : Act} {C : World → Prop} {K : Act → Prop} {v : Value} {f : FuncId} {args : Array Value} (h : ∀ w, C w → (execOp a.eval o).run P w = .ok (.enter f args) w) (hc : ∀ w, C w → Calls P f args w fun e w' => e = .returned v ∧ C w') (hk : K (a.put o.dst v)) : o.quiet P a C K :=
  ⟨v, fun w hw => by unfold Oper.quietAt; rw [h w hw]; exact ⟨rfl, hc w hw⟩, hk⟩
theorem ev_below {w w2 : World} {O : Obj} (h : Below (w.heap.size + 1) (w.alloc O) w2) : Below w.heap.size w w2 :=
  ((Below.refl _ _).alloc (Nat.le_refl _) O).trans (h.mono (by omega))
/-- a condition on worlds: the event lies in the block that was laid for it, and nothing older has turned -/
theorem ev_held (w : World) (k o i q p c t : Int) (wh : ByteArray) (s : Int) (n : ByteArray) : ∃ E : World → Prop, E (w.alloc (.cells #[.int .i64 k, .int .i64 o, .int .i64 i, .int .i64 q, .int .i64 p, .int .i64 c, .int .i64 t, .string wh, .int .i64 s, .string n] 25)) ∧ E (w.alloc (.cells #[.int .i64 k, .int .i64 o, .int .i64 i, .int .i64 q, .int .i64 p, .int .i64 c, .int .i64 t, .string wh, .int .i64 s, .string n] 25)).drew ∧ (∀ w1 w2, E w1 → Below w1.heap.size w1 w2 → E w2) ∧ (∀ w2, E w2 → Below w.heap.size w w2) ∧ (∀ w2, E w2 → w.heap.size < w2.heap.size) ∧ (∀ w2, E w2 → w2.cell? ⟨w.heap.size, 0, none⟩ = some (.int .i64 k)) ∧ (∀ w2, E w2 → w2.cell? ⟨w.heap.size, 1, none⟩ = some (.int .i64 o)) ∧ (∀ w2, E w2 → w2.cell? ⟨w.heap.size, 2, none⟩ = some (.int .i64 i)) ∧ (∀ w2, E w2 → w2.cell? ⟨w.heap.size, 3, none⟩ = some (.int .i64 q)) ∧ (∀ w2, E w2 → w2.cell? ⟨w.heap.size, 4, none⟩ = some (.int .i64 p)) ∧ (∀ w2, E w2 → w2.cell? ⟨w.heap.size, 5, none⟩ = some (.int .i64 c)) ∧ (∀ w2, E w2 → w2.cell? ⟨w.heap.size, 6, none⟩ = some (.int .i64 t)) ∧ (∀ w2, E w2 → w2.cell? ⟨w.heap.size, 7, none⟩ = some (.string wh)) ∧ (∀ w2, E w2 → w2.cell? ⟨w.heap.size, 8, none⟩ = some (.int .i64 s)) ∧ (∀ w2, E w2 → w2.cell? ⟨w.heap.size, 9, none⟩ = some (.string n)) := by
  refine ⟨fun w2 => Below (w.heap.size + 1) (w.alloc (.cells #[.int .i64 k, .int .i64 o, .int .i64 i, .int .i64 q, .int .i64 p, .int .i64 c, .int .i64 t, .string wh, .int .i64 s, .string n] 25)) w2, Below.refl _ _, (Below.refl _ _).drew, fun w1 w2 h h2 => h.trans (h2.mono ?_), fun w2 h => ev_below h, fun w2 h => ?_, fun w2 h => ev_cell h 0 _ rfl, fun w2 h => ev_cell h 1 _ rfl, fun w2 h => ev_cell h 2 _ rfl, fun w2 h => ev_cell h 3 _ rfl, fun w2 h => ev_cell h 4 _ rfl, fun w2 h => ev_cell h 5 _ rfl, fun w2 h => ev_cell h 6 _ rfl, fun w2 h => ev_cell h 7 _ rfl, fun w2 h => ev_cell h 8 _ rfl, fun w2 h => ev_cell h 9 _ rfl⟩
  · have := h.size
    simpa using this
  · have := h.size
    simp at this
    omega
set_option maxRecDepth 20000 in
theorem v1_least (v : Array Value) (w : World) : Calls Tryd.prog 131 #[.agg v] w fun e w' => e = .returned (.int .i64 (-10000)) ∧ Below w.heap.size w w' := by
  go_enter Tryd.func131, Tryd.ntmps131
  go_wp2
  go_ret
  exact ⟨rfl, (Below.refl _ _).alloc (Nat.le_refl _) _⟩
set_option maxRecDepth 20000 in
theorem v3_least (v : Array Value) (w : World) : Calls Tryd.prog 143 #[.agg v] w fun e w' => e = .returned (.int .i64 (0)) ∧ Below w.heap.size w w' := by
  go_enter Tryd.func143, Tryd.ntmps143
  go_wp2
  go_ret
  exact ⟨rfl, (Below.refl _ _).alloc (Nat.le_refl _) _⟩
set_option maxRecDepth 20000 in
theorem v1_most (v : Array Value) (w : World) : Calls Tryd.prog 132 #[.agg v] w fun e w' => e = .returned (.int .i64 (1000000)) ∧ Below w.heap.size w w' := by
  go_enter Tryd.func132, Tryd.ntmps132
  go_wp2
  go_ret
  exact ⟨rfl, (Below.refl _ _).alloc (Nat.le_refl _) _⟩
set_option maxRecDepth 20000 in
theorem v2_most (v : Array Value) (w : World) : Calls Tryd.prog 140 #[.agg v] w fun e w' => e = .returned (.int .i64 (100000000)) ∧ Below w.heap.size w w' := by
  go_enter Tryd.func140, Tryd.ntmps140
  go_wp2
  go_ret
  exact ⟨rfl, (Below.refl _ _).alloc (Nat.le_refl _) _⟩
set_option maxRecDepth 20000 in
theorem v1_last (v : Array Value) (w : World) : Calls Tryd.prog 130 #[.agg v] w fun e w' => e = .returned (.int .i64 (5)) ∧ Below w.heap.size w w' := by
  go_enter Tryd.func130, Tryd.ntmps130
  go_wp2
  go_ret
  exact ⟨rfl, (Below.refl _ _).alloc (Nat.le_refl _) _⟩
set_option maxRecDepth 20000 in
theorem v3_last (v : Array Value) (w : World) : Calls Tryd.prog 142 #[.agg v] w fun e w' => e = .returned (.int .i64 (7)) ∧ Below w.heap.size w w' := by
  go_enter Tryd.func142, Tryd.ntmps142
  go_wp2
  go_ret
  exact ⟨rfl, (Below.refl _ _).alloc (Nat.le_refl _) _⟩
set_option maxRecDepth 20000 in
theorem v4_last (v : Array Value) (w : World) : Calls Tryd.prog 147 #[.agg v] w fun e w' => e = .returned (.int .i64 (9)) ∧ Below w.heap.size w w' := by
  go_enter Tryd.func147, Tryd.ntmps147
  go_wp2
  go_ret
  exact ⟨rfl, (Below.refl _ _).alloc (Nat.le_refl _) _⟩
set_option maxRecDepth 20000 in
theorem v5_last (v : Array Value) (w : World) : Calls Tryd.prog 150 #[.agg v] w fun e w' => e = .returned (.int .i64 (10)) ∧ Below w.heap.size w w' := by
  go_enter Tryd.func150, Tryd.ntmps150
  go_wp2
  go_ret
  exact ⟨rfl, (Below.refl _ _).alloc (Nat.le_refl _) _⟩
theorem m_least1 (w : World) : (method 320 159 (.agg #[.int .i64 0, .int .i64 0, .int .i64 0, .int .i64 0, .int .i64 0]) "daybook/schema.leastQty").run Tryd.prog w = .ok (131, .agg #[.int .i64 0, .int .i64 0, .int .i64 0, .int .i64 0, .int .i64 0]) w := by kernel_rfl
theorem m_least2 (w : World) : (method 320 161 (.agg #[.int .i64 0, .int .i64 0, .int .i64 0, .int .i64 0, .int .i64 0, .int .i64 0]) "daybook/schema.leastQty").run Tryd.prog w = .ok (131, .agg #[.int .i64 0, .int .i64 0, .int .i64 0, .int .i64 0, .int .i64 0]) w := by kernel_rfl
theorem m_least3 (w : World) : (method 320 163 (.agg #[.int .i64 0, .int .i64 0, .int .i64 0, .int .i64 0, .int .i64 0, .int .i64 0, .int .i64 0]) "daybook/schema.leastQty").run Tryd.prog w = .ok (143, .agg #[.int .i64 0, .int .i64 0, .int .i64 0, .int .i64 0, .int .i64 0, .int .i64 0, .int .i64 0]) w := by kernel_rfl
theorem m_least4 (w : World) : (method 320 165 (.agg #[.int .i64 0, .int .i64 0, .int .i64 0, .int .i64 0, .int .i64 0, .int .i64 0, .int .i64 0, .string ⟨#[]⟩]) "daybook/schema.leastQty").run Tryd.prog w = .ok (143, .agg #[.int .i64 0, .int .i64 0, .int .i64 0, .int .i64 0, .int .i64 0, .int .i64 0, .int .i64 0]) w := by kernel_rfl
theorem m_least5 (w : World) : (method 320 167 (.agg #[.int .i64 0, .int .i64 0, .int .i64 0, .int .i64 0, .int .i64 0, .int .i64 0, .int .i64 0, .string ⟨#[]⟩, .int .i64 0, .string ⟨#[]⟩]) "daybook/schema.leastQty").run Tryd.prog w = .ok (143, .agg #[.int .i64 0, .int .i64 0, .int .i64 0, .int .i64 0, .int .i64 0, .int .i64 0, .int .i64 0]) w := by kernel_rfl
theorem m_most1 (w : World) : (method 320 159 (.agg #[.int .i64 0, .int .i64 0, .int .i64 0, .int .i64 0, .int .i64 0]) "daybook/schema.mostPrice").run Tryd.prog w = .ok (132, .agg #[.int .i64 0, .int .i64 0, .int .i64 0, .int .i64 0, .int .i64 0]) w := by kernel_rfl
theorem m_most2 (w : World) : (method 320 161 (.agg #[.int .i64 0, .int .i64 0, .int .i64 0, .int .i64 0, .int .i64 0, .int .i64 0]) "daybook/schema.mostPrice").run Tryd.prog w = .ok (140, .agg #[.int .i64 0, .int .i64 0, .int .i64 0, .int .i64 0, .int .i64 0, .int .i64 0]) w := by kernel_rfl
theorem m_most3 (w : World) : (method 320 163 (.agg #[.int .i64 0, .int .i64 0, .int .i64 0, .int .i64 0, .int .i64 0, .int .i64 0, .int .i64 0]) "daybook/schema.mostPrice").run Tryd.prog w = .ok (140, .agg #[.int .i64 0, .int .i64 0, .int .i64 0, .int .i64 0, .int .i64 0, .int .i64 0]) w := by kernel_rfl
theorem m_most4 (w : World) : (method 320 165 (.agg #[.int .i64 0, .int .i64 0, .int .i64 0, .int .i64 0, .int .i64 0, .int .i64 0, .int .i64 0, .string ⟨#[]⟩]) "daybook/schema.mostPrice").run Tryd.prog w = .ok (140, .agg #[.int .i64 0, .int .i64 0, .int .i64 0, .int .i64 0, .int .i64 0, .int .i64 0]) w := by kernel_rfl
theorem m_most5 (w : World) : (method 320 167 (.agg #[.int .i64 0, .int .i64 0, .int .i64 0, .int .i64 0, .int .i64 0, .int .i64 0, .int .i64 0, .string ⟨#[]⟩, .int .i64 0, .string ⟨#[]⟩]) "daybook/schema.mostPrice").run Tryd.prog w = .ok (140, .agg #[.int .i64 0, .int .i64 0, .int .i64 0, .int .i64 0, .int .i64 0, .int .i64 0]) w := by kernel_rfl
theorem m_last1 (w : World) : (method 320 159 (.agg #[.int .i64 0, .int .i64 0, .int .i64 0, .int .i64 0, .int .i64 0]) "daybook/schema.lastKind").run Tryd.prog w = .ok (130, .agg #[.int .i64 0, .int .i64 0, .int .i64 0, .int .i64 0, .int .i64 0]) w := by kernel_rfl
theorem m_last2 (w : World) : (method 320 161 (.agg #[.int .i64 0, .int .i64 0, .int .i64 0, .int .i64 0, .int .i64 0, .int .i64 0]) "daybook/schema.lastKind").run Tryd.prog w = .ok (130, .agg #[.int .i64 0, .int .i64 0, .int .i64 0, .int .i64 0, .int .i64 0]) w := by kernel_rfl
theorem m_last3 (w : World) : (method 320 163 (.agg #[.int .i64 0, .int .i64 0, .int .i64 0, .int .i64 0, .int .i64 0, .int .i64 0, .int .i64 0]) "daybook/schema.lastKind").run Tryd.prog w = .ok (142, .agg #[.int .i64 0, .int .i64 0, .int .i64 0, .int .i64 0, .int .i64 0, .int .i64 0, .int .i64 0]) w := by kernel_rfl
theorem m_last4 (w : World) : (method 320 165 (.agg #[.int .i64 0, .int .i64 0, .int .i64 0, .int .i64 0, .int .i64 0, .int .i64 0, .int .i64 0, .string ⟨#[]⟩]) "daybook/schema.lastKind").run Tryd.prog w = .ok (147, .agg #[.int .i64 0, .int .i64 0, .int .i64 0, .int .i64 0, .int .i64 0, .int .i64 0, .int .i64 0, .string ⟨#[]⟩]) w := by kernel_rfl
theorem m_last5 (w : World) : (method 320 167 (.agg #[.int .i64 0, .int .i64 0, .int .i64 0, .int .i64 0, .int .i64 0, .int .i64 0, .int .i64 0, .string ⟨#[]⟩, .int .i64 0, .string ⟨#[]⟩]) "daybook/schema.lastKind").run Tryd.prog w = .ok (150, .agg #[.int .i64 0, .int .i64 0, .int .i64 0, .int .i64 0, .int .i64 0, .int .i64 0, .int .i64 0, .string ⟨#[]⟩, .int .i64 0, .string ⟨#[]⟩]) w := by kernel_rfl
def bnd (l m o i q p c t : Int) (wh : ByteArray) (s : Int) : Bool := wit 1 o 1099511627776 && (wit 0 i 65535 && (wit l q 10000 && (wit 0 p m && (wit 0 c 3 && (wit 0 t 5000 && (plainB wh.data.toList && wit 0 s 1099511627776))))))
end Go.Proofs.YtofealmjggpacaaDoor
namespace Go.Proofs.YtofealmjggpacaaDoor
open Go.ChangeShapes Go.WideShapes Go.ChangeAt Go.RowKit
set_option linter.unusedSimpArgs false
set_option maxRecDepth 20000 in
set_option maxHeartbeats 4000000 in
theorem boundA (T : TypeId) (cs rl rm : Array Value) (k o i q p c t : Int) (wh : ByteArray) (s : Int) (n : ByteArray) (w : World) (hwh : wh.size ≤ 16)
    (hm1 : ∀ w, (method 320 T (.agg cs) "daybook/schema.leastQty").run Tryd.prog w = .ok (131, .agg rl) w) (hm2 : ∀ w, (method 320 T (.agg cs) "daybook/schema.mostPrice").run Tryd.prog w = .ok (132, .agg rm) w) :
    Calls Tryd.prog 67 #[.iface T (.agg cs), .agg #[.int .i64 k, .int .i64 o, .int .i64 i, .int .i64 q, .int .i64 p, .int .i64 c, .int .i64 t, .string wh, .int .i64 s, .string n]] w fun e w' => e = .returned (.bool (bnd (-10000) 1000000 o i q p c t wh s)) ∧ Below w.heap.size w w' := by
  obtain ⟨E, _, hE, hn, hbel, _, r0, r1, r2, r3, r4, r5, r6, r7, r8, r9⟩ := ev_held w k o i q p c t wh s n
  have HN : Hid (∀ w1 w2, E w1 → Below w1.heap.size w1 w2 → E w2) := hn
  have HB : Hid (∀ w2, E w2 → Below w.heap.size w w2) := hbel
  have R : Hid (∀ w2, E w2 → _ ∧ _ ∧ _ ∧ _ ∧ _ ∧ _ ∧ _ ∧ _) := fun w2 h => ⟨r1 w2 h, r2 w2 h, r3 w2 h, r4 w2 h, r5 w2 h, r6 w2 h, r7 w2 h, r8 w2 h⟩
  clear hn hbel r0 r1 r2 r3 r4 r5 r6 r7 r8 r9
  go_enter Tryd.func67, Tryd.ntmps67
  go_wp2
  refine wp_region_quiet (C := E) (by kernel_rfl) (by kernel_rfl) hE ?_
  simp only [List.toList_toArray]
  have CW : ∀ a x b w2, E w2 → Calls Tryd.prog 94 #[.int .i64 a, .int .i64 x, .int .i64 b] w2 fun e w' => e = .returned (.bool (wit a x b)) ∧ E w' := fun a x b w2 h => (within_any a x b w2).mono fun e w' ⟨h1, h2⟩ => ⟨h1, h2 ▸ h⟩
  have CL : ∀ v w2, E w2 → Calls Tryd.prog 131 #[.agg v] w2 fun e w' => e = .returned (.int .i64 (-10000)) ∧ E w' := fun v w2 h => (v1_least v w2).mono fun e w' ⟨h1, h2⟩ => ⟨h1, HN.out _ _ h h2⟩
  have CM : ∀ v w2, E w2 → Calls Tryd.prog 132 #[.agg v] w2 fun e w' => e = .returned (.int .i64 (1000000)) ∧ E w' := fun v w2 h => (v1_most v w2).mono fun e w' ⟨h1, h2⟩ => ⟨h1, HN.out _ _ h h2⟩
  have CP : ∀ w2, E w2 → Calls Tryd.prog 95 #[.string wh] w2 fun e w' => e = .returned (.bool (plainB wh.data.toList)) ∧ E w' := fun w2 h => (plain_any wh w2 hwh).mono fun e w' ⟨h1, h2⟩ => ⟨h1, HN.out _ _ h h2⟩
  have HCW : Hid (_) := CW
  have HCL : Hid (_) := CL
  have HCM : Hid (_) := CM
  have HCP : Hid (_) := CP
  clear CW CL CM CP
  repeat (any_goals (first
    | go_big_quiet_skip
    | (go_big_quiet_want
       first
       | (refine quiet_val (v := ?_) (fun w2 hw2 => ?_) ?_
          rotate_left
          · (first | (go_simp; with_reducible rfl) | (obtain ⟨q1, q2, q3, q4, q5, q6, q7, q8⟩ := R.out w2 hw2; go_simp; with_reducible rfl))
          go_big_quiet_on
          simp only [Act.put, List.setIfInBounds_toArray, List.set_cons_zero, List.set_cons_succ])
       | (refine quiet_call (v := ?_) (f := ?_) (args := ?_) (fun w2 hw2 => ?_) (fun w2 hw2 => ?_) ?_
          rotate_left 3
          · (go_simp; refine ⟨?_, ?_⟩ <;> with_reducible rfl)
          first
          | (· (go_at_call_of 94 (o); exact HCW.out 1 o 1099511627776 _ hw2)
             (go_big_quiet_on; simp only [Act.put, List.setIfInBounds_toArray, List.set_cons_zero, List.set_cons_succ]; cases h0 : wit 1 o 1099511627776))
          | (· (go_at_call_of 94 (i); exact HCW.out 0 i 65535 _ hw2)
             (go_big_quiet_on; simp only [Act.put, List.setIfInBounds_toArray, List.set_cons_zero, List.set_cons_succ]; cases h1 : wit 0 i 65535))
          | (· (go_at_call_of 94 (q); exact HCW.out (-10000) q 10000 _ hw2)
             (go_big_quiet_on; simp only [Act.put, List.setIfInBounds_toArray, List.set_cons_zero, List.set_cons_succ]; cases h2 : wit (-10000) q 10000))
          | (· (go_at_call_of 94 (p); exact HCW.out 0 p 1000000 _ hw2)
             (go_big_quiet_on; simp only [Act.put, List.setIfInBounds_toArray, List.set_cons_zero, List.set_cons_succ]; cases h3 : wit 0 p 1000000))
          | (· (go_at_call_of 94 (c); exact HCW.out 0 c 3 _ hw2)
             (go_big_quiet_on; simp only [Act.put, List.setIfInBounds_toArray, List.set_cons_zero, List.set_cons_succ]; cases h4 : wit 0 c 3))
          | (· (go_at_call_of 94 (t); exact HCW.out 0 t 5000 _ hw2)
             (go_big_quiet_on; simp only [Act.put, List.setIfInBounds_toArray, List.set_cons_zero, List.set_cons_succ]; cases h5 : wit 0 t 5000))
          | (· (go_at_call 95; exact HCP.out _ hw2)
             (go_big_quiet_on; simp only [Act.put, List.setIfInBounds_toArray, List.set_cons_zero, List.set_cons_succ]; cases h6 : plainB wh.data.toList))
          | (· (go_at_call_of 94 (s); exact HCW.out 0 s 1099511627776 _ hw2)
             (go_big_quiet_on; simp only [Act.put, List.setIfInBounds_toArray, List.set_cons_zero, List.set_cons_succ]; cases h7 : wit 0 s 1099511627776))
          | (· (go_at_call 131; exact HCL.out _ _ hw2)
             (go_big_quiet_on; simp only [Act.put, List.setIfInBounds_toArray, List.set_cons_zero, List.set_cons_succ]))
          | (· (go_at_call 132; exact HCM.out _ _ hw2)
             (go_big_quiet_on; simp only [Act.put, List.setIfInBounds_toArray, List.set_cons_zero, List.set_cons_succ]))))))
  all_goals
    refine wpQuiet_nil ?_
    intro w3 hw3
    go_wp2
    go_ret
    refine ⟨ret_bool ?_, HB.out _ hw3⟩
    unfold bnd
    simp only [*, Bool.true_and, Bool.false_and]
end Go.Proofs.YtofealmjggpacaaDoor
namespace Go.Proofs.YtofealmjggpacaaDoor
open Go.ChangeShapes Go.WideShapes Go.ChangeAt Go.RowKit
set_option linter.unusedSimpArgs false
set_option maxRecDepth 20000 in
set_option maxHeartbeats 4000000 in
theorem boundB (T : TypeId) (cs rl rm : Array Value) (k o i q p c t : Int) (wh : ByteArray) (s : Int) (n : ByteArray) (w : World) (hwh : wh.size ≤ 16)
    (hm1 : ∀ w, (method 320 T (.agg cs) "daybook/schema.leastQty").run Tryd.prog w = .ok (131, .agg rl) w) (hm2 : ∀ w, (method 320 T (.agg cs) "daybook/schema.mostPrice").run Tryd.prog w = .ok (140, .agg rm) w) :
    Calls Tryd.prog 67 #[.iface T (.agg cs), .agg #[.int .i64 k, .int .i64 o, .int .i64 i, .int .i64 q, .int .i64 p, .int .i64 c, .int .i64 t, .string wh, .int .i64 s, .string n]] w fun e w' => e = .returned (.bool (bnd (-10000) 100000000 o i q p c t wh s)) ∧ Below w.heap.size w w' := by
  obtain ⟨E, _, hE, hn, hbel, _, r0, r1, r2, r3, r4, r5, r6, r7, r8, r9⟩ := ev_held w k o i q p c t wh s n
  have HN : Hid (∀ w1 w2, E w1 → Below w1.heap.size w1 w2 → E w2) := hn
  have HB : Hid (∀ w2, E w2 → Below w.heap.size w w2) := hbel
  have R : Hid (∀ w2, E w2 → _ ∧ _ ∧ _ ∧ _ ∧ _ ∧ _ ∧ _ ∧ _) := fun w2 h => ⟨r1 w2 h, r2 w2 h, r3 w2 h, r4 w2 h, r5 w2 h, r6 w2 h, r7 w2 h, r8 w2 h⟩
  clear hn hbel r0 r1 r2 r3 r4 r5 r6 r7 r8 r9
  go_enter Tryd.func67, Tryd.ntmps67
  go_wp2
  refine wp_region_quiet (C := E) (by kernel_rfl) (by kernel_rfl) hE ?_
  simp only [List.toList_toArray]
  have CW : ∀ a x b w2, E w2 → Calls Tryd.prog 94 #[.int .i64 a, .int .i64 x, .int .i64 b] w2 fun e w' => e = .returned (.bool (wit a x b)) ∧ E w' := fun a x b w2 h => (within_any a x b w2).mono fun e w' ⟨h1, h2⟩ => ⟨h1, h2 ▸ h⟩
  have CL : ∀ v w2, E w2 → Calls Tryd.prog 131 #[.agg v] w2 fun e w' => e = .returned (.int .i64 (-10000)) ∧ E w' := fun v w2 h => (v1_least v w2).mono fun e w' ⟨h1, h2⟩ => ⟨h1, HN.out _ _ h h2⟩
  have CM : ∀ v w2, E w2 → Calls Tryd.prog 140 #[.agg v] w2 fun e w' => e = .returned (.int .i64 (100000000)) ∧ E w' := fun v w2 h => (v2_most v w2).mono fun e w' ⟨h1, h2⟩ => ⟨h1, HN.out _ _ h h2⟩
  have CP : ∀ w2, E w2 → Calls Tryd.prog 95 #[.string wh] w2 fun e w' => e = .returned (.bool (plainB wh.data.toList)) ∧ E w' := fun w2 h => (plain_any wh w2 hwh).mono fun e w' ⟨h1, h2⟩ => ⟨h1, HN.out _ _ h h2⟩
  have HCW : Hid (_) := CW
  have HCL : Hid (_) := CL
  have HCM : Hid (_) := CM
  have HCP : Hid (_) := CP
  clear CW CL CM CP
  repeat (any_goals (first
    | go_big_quiet_skip
    | (go_big_quiet_want
       first
       | (refine quiet_val (v := ?_) (fun w2 hw2 => ?_) ?_
          rotate_left
          · (first | (go_simp; with_reducible rfl) | (obtain ⟨q1, q2, q3, q4, q5, q6, q7, q8⟩ := R.out w2 hw2; go_simp; with_reducible rfl))
          go_big_quiet_on
          simp only [Act.put, List.setIfInBounds_toArray, List.set_cons_zero, List.set_cons_succ])
       | (refine quiet_call (v := ?_) (f := ?_) (args := ?_) (fun w2 hw2 => ?_) (fun w2 hw2 => ?_) ?_
          rotate_left 3
          · (go_simp; refine ⟨?_, ?_⟩ <;> with_reducible rfl)
          first
          | (· (go_at_call_of 94 (o); exact HCW.out 1 o 1099511627776 _ hw2)
             (go_big_quiet_on; simp only [Act.put, List.setIfInBounds_toArray, List.set_cons_zero, List.set_cons_succ]; cases h0 : wit 1 o 1099511627776))
          | (· (go_at_call_of 94 (i); exact HCW.out 0 i 65535 _ hw2)
             (go_big_quiet_on; simp only [Act.put, List.setIfInBounds_toArray, List.set_cons_zero, List.set_cons_succ]; cases h1 : wit 0 i 65535))
          | (· (go_at_call_of 94 (q); exact HCW.out (-10000) q 10000 _ hw2)
             (go_big_quiet_on; simp only [Act.put, List.setIfInBounds_toArray, List.set_cons_zero, List.set_cons_succ]; cases h2 : wit (-10000) q 10000))
          | (· (go_at_call_of 94 (p); exact HCW.out 0 p 100000000 _ hw2)
             (go_big_quiet_on; simp only [Act.put, List.setIfInBounds_toArray, List.set_cons_zero, List.set_cons_succ]; cases h3 : wit 0 p 100000000))
          | (· (go_at_call_of 94 (c); exact HCW.out 0 c 3 _ hw2)
             (go_big_quiet_on; simp only [Act.put, List.setIfInBounds_toArray, List.set_cons_zero, List.set_cons_succ]; cases h4 : wit 0 c 3))
          | (· (go_at_call_of 94 (t); exact HCW.out 0 t 5000 _ hw2)
             (go_big_quiet_on; simp only [Act.put, List.setIfInBounds_toArray, List.set_cons_zero, List.set_cons_succ]; cases h5 : wit 0 t 5000))
          | (· (go_at_call 95; exact HCP.out _ hw2)
             (go_big_quiet_on; simp only [Act.put, List.setIfInBounds_toArray, List.set_cons_zero, List.set_cons_succ]; cases h6 : plainB wh.data.toList))
          | (· (go_at_call_of 94 (s); exact HCW.out 0 s 1099511627776 _ hw2)
             (go_big_quiet_on; simp only [Act.put, List.setIfInBounds_toArray, List.set_cons_zero, List.set_cons_succ]; cases h7 : wit 0 s 1099511627776))
          | (· (go_at_call 131; exact HCL.out _ _ hw2)
             (go_big_quiet_on; simp only [Act.put, List.setIfInBounds_toArray, List.set_cons_zero, List.set_cons_succ]))
          | (· (go_at_call 140; exact HCM.out _ _ hw2)
             (go_big_quiet_on; simp only [Act.put, List.setIfInBounds_toArray, List.set_cons_zero, List.set_cons_succ]))))))
  all_goals
    refine wpQuiet_nil ?_
    intro w3 hw3
    go_wp2
    go_ret
    refine ⟨ret_bool ?_, HB.out _ hw3⟩
    unfold bnd
    simp only [*, Bool.true_and, Bool.false_and]
end Go.Proofs.YtofealmjggpacaaDoor
namespace Go.Proofs.YtofealmjggpacaaDoor
open Go.ChangeShapes Go.WideShapes Go.ChangeAt Go.RowKit
set_option linter.unusedSimpArgs false
set_option maxRecDepth 20000 in
set_option maxHeartbeats 4000000 in
theorem boundC (T : TypeId) (cs rl rm : Array Value) (k o i q p c t : Int) (wh : ByteArray) (s : Int) (n : ByteArray) (w : World) (hwh : wh.size ≤ 16)
    (hm1 : ∀ w, (method 320 T (.agg cs) "daybook/schema.leastQty").run Tryd.prog w = .ok (143, .agg rl) w) (hm2 : ∀ w, (method 320 T (.agg cs) "daybook/schema.mostPrice").run Tryd.prog w = .ok (140, .agg rm) w) :
    Calls Tryd.prog 67 #[.iface T (.agg cs), .agg #[.int .i64 k, .int .i64 o, .int .i64 i, .int .i64 q, .int .i64 p, .int .i64 c, .int .i64 t, .string wh, .int .i64 s, .string n]] w fun e w' => e = .returned (.bool (bnd (0) 100000000 o i q p c t wh s)) ∧ Below w.heap.size w w' := by
  obtain ⟨E, _, hE, hn, hbel, _, r0, r1, r2, r3, r4, r5, r6, r7, r8, r9⟩ := ev_held w k o i q p c t wh s n
  have HN : Hid (∀ w1 w2, E w1 → Below w1.heap.size w1 w2 → E w2) := hn
  have HB : Hid (∀ w2, E w2 → Below w.heap.size w w2) := hbel
  have R : Hid (∀ w2, E w2 → _ ∧ _ ∧ _ ∧ _ ∧ _ ∧ _ ∧ _ ∧ _) := fun w2 h => ⟨r1 w2 h, r2 w2 h, r3 w2 h, r4 w2 h, r5 w2 h, r6 w2 h, r7 w2 h, r8 w2 h⟩
  clear hn hbel r0 r1 r2 r3 r4 r5 r6 r7 r8 r9
  go_enter Tryd.func67, Tryd.ntmps67
  go_wp2
  refine wp_region_quiet (C := E) (by kernel_rfl) (by kernel_rfl) hE ?_
  simp only [List.toList_toArray]
  have CW : ∀ a x b w2, E w2 → Calls Tryd.prog 94 #[.int .i64 a, .int .i64 x, .int .i64 b] w2 fun e w' => e = .returned (.bool (wit a x b)) ∧ E w' := fun a x b w2 h => (within_any a x b w2).mono fun e w' ⟨h1, h2⟩ => ⟨h1, h2 ▸ h⟩
  have CL : ∀ v w2, E w2 → Calls Tryd.prog 143 #[.agg v] w2 fun e w' => e = .returned (.int .i64 (0)) ∧ E w' := fun v w2 h => (v3_least v w2).mono fun e w' ⟨h1, h2⟩ => ⟨h1, HN.out _ _ h h2⟩
  have CM : ∀ v w2, E w2 → Calls Tryd.prog 140 #[.agg v] w2 fun e w' => e = .returned (.int .i64 (100000000)) ∧ E w' := fun v w2 h => (v2_most v w2).mono fun e w' ⟨h1, h2⟩ => ⟨h1, HN.out _ _ h h2⟩
  have CP : ∀ w2, E w2 → Calls Tryd.prog 95 #[.string wh] w2 fun e w' => e = .returned (.bool (plainB wh.data.toList)) ∧ E w' := fun w2 h => (plain_any wh w2 hwh).mono fun e w' ⟨h1, h2⟩ => ⟨h1, HN.out _ _ h h2⟩
  have HCW : Hid (_) := CW
  have HCL : Hid (_) := CL
  have HCM : Hid (_) := CM
  have HCP : Hid (_) := CP
  clear CW CL CM CP
  repeat (any_goals (first
    | go_big_quiet_skip
    | (go_big_quiet_want
       first
       | (refine quiet_val (v := ?_) (fun w2 hw2 => ?_) ?_
          rotate_left
          · (first | (go_simp; with_reducible rfl) | (obtain ⟨q1, q2, q3, q4, q5, q6, q7, q8⟩ := R.out w2 hw2; go_simp; with_reducible rfl))
          go_big_quiet_on
          simp only [Act.put, List.setIfInBounds_toArray, List.set_cons_zero, List.set_cons_succ])
       | (refine quiet_call (v := ?_) (f := ?_) (args := ?_) (fun w2 hw2 => ?_) (fun w2 hw2 => ?_) ?_
          rotate_left 3
          · (go_simp; refine ⟨?_, ?_⟩ <;> with_reducible rfl)
          first
          | (· (go_at_call_of 94 (o); exact HCW.out 1 o 1099511627776 _ hw2)
             (go_big_quiet_on; simp only [Act.put, List.setIfInBounds_toArray, List.set_cons_zero, List.set_cons_succ]; cases h0 : wit 1 o 1099511627776))
          | (· (go_at_call_of 94 (i); exact HCW.out 0 i 65535 _ hw2)
             (go_big_quiet_on; simp only [Act.put, List.setIfInBounds_toArray, List.set_cons_zero, List.set_cons_succ]; cases h1 : wit 0 i 65535))
          | (· (go_at_call_of 94 (q); exact HCW.out (0) q 10000 _ hw2)
             (go_big_quiet_on; simp only [Act.put, List.setIfInBounds_toArray, List.set_cons_zero, List.set_cons_succ]; cases h2 : wit (0) q 10000))
          | (· (go_at_call_of 94 (p); exact HCW.out 0 p 100000000 _ hw2)
             (go_big_quiet_on; simp only [Act.put, List.setIfInBounds_toArray, List.set_cons_zero, List.set_cons_succ]; cases h3 : wit 0 p 100000000))
          | (· (go_at_call_of 94 (c); exact HCW.out 0 c 3 _ hw2)
             (go_big_quiet_on; simp only [Act.put, List.setIfInBounds_toArray, List.set_cons_zero, List.set_cons_succ]; cases h4 : wit 0 c 3))
          | (· (go_at_call_of 94 (t); exact HCW.out 0 t 5000 _ hw2)
             (go_big_quiet_on; simp only [Act.put, List.setIfInBounds_toArray, List.set_cons_zero, List.set_cons_succ]; cases h5 : wit 0 t 5000))
          | (· (go_at_call 95; exact HCP.out _ hw2)
             (go_big_quiet_on; simp only [Act.put, List.setIfInBounds_toArray, List.set_cons_zero, List.set_cons_succ]; cases h6 : plainB wh.data.toList))
          | (· (go_at_call_of 94 (s); exact HCW.out 0 s 1099511627776 _ hw2)
             (go_big_quiet_on; simp only [Act.put, List.setIfInBounds_toArray, List.set_cons_zero, List.set_cons_succ]; cases h7 : wit 0 s 1099511627776))
          | (· (go_at_call 143; exact HCL.out _ _ hw2)
             (go_big_quiet_on; simp only [Act.put, List.setIfInBounds_toArray, List.set_cons_zero, List.set_cons_succ]))
          | (· (go_at_call 140; exact HCM.out _ _ hw2)
             (go_big_quiet_on; simp only [Act.put, List.setIfInBounds_toArray, List.set_cons_zero, List.set_cons_succ]))))))
  all_goals
    refine wpQuiet_nil ?_
    intro w3 hw3
    go_wp2
    go_ret
    refine ⟨ret_bool ?_, HB.out _ hw3⟩
    unfold bnd
    simp only [*, Bool.true_and, Bool.false_and]
end Go.Proofs.YtofealmjggpacaaDoor
