/- Own texts, joined: Plain, Find, Bnd, Same. -/
import Derived.Test.YtblfmfanfpohbaaGreatRows
import Derived.Test.YtblfmfanfpohbaaGreatAid
import Derived.Lib.ConvBytes
import Derived.Deep.QuietTactic
import Derived.BigQuiet
import Derived.Deep.RegionHeld3
namespace Go.Proofs.YtblfmfanfpohbaaGreat
open Go.ChangeShapes Go.WideShapes Go.ChangeAt Go.RowKit
/-- a letter a to z, a digit or - -/
def okC (c : Int) : Bool := decide (97 ≤ c ∧ c ≤ 122) || decide (48 ≤ c ∧ c ≤ 57) || decide (c = 45)
def plainB (l : List UInt8) : Bool := l.all fun c => okC (c.toNat : Int)
theorem okC_yes {c : Int} (h : okC c = true) : (97 ≤ c ∧ c ≤ 122) ∨ (48 ≤ c ∧ c ≤ 57) ∨ c = 45 := by
  simpa [okC, or_assoc] using h
theorem okC_no {c : Int} (h : okC c = false) : ¬ (97 ≤ c ∧ c ≤ 122) ∧ ¬ (48 ≤ c ∧ c ≤ 57) ∧ c ≠ 45 := by
  simp [okC] at h
  omega
theorem plain_more (l : List UInt8) (k : Nat) (c : Int) (hk : k < l.length) (hc : c = ((l.getD k 0).toNat : Int)) (h : plainB (l.take k) = true) (ho : okC c = true) : plainB (l.take (k + 1)) = true := by
  subst hc
  rw [List.take_succ_eq_append_getElem hk]
  unfold plainB at h ⊢
  rw [List.all_append, h]
  rw [List.getD_eq_getElem?_getD, List.getElem?_eq_getElem hk] at ho
  simpa using ho
theorem plain_not (l : List UInt8) (k : Nat) (c : Int) (hk : k < l.length) (hc : c = ((l.getD k 0).toNat : Int)) (ho : okC c = false) : plainB l = false := by
  subst hc
  rw [List.getD_eq_getElem?_getD, List.getElem?_eq_getElem hk] at ho
  unfold plainB
  rw [List.all_eq_false]
  exact ⟨l[k], List.getElem_mem hk, by simpa using ho⟩
/-- the text as a row of bytes of its own -/
theorem conv_any (s : ByteArray) (w : World) :
    ∃ c wr, (convert 9 146 (.string s)).run Tryz.prog w = .ok (.slice (some ⟨w.heap.size, 0, none⟩) s.size c) wr ∧ (∀ j, j < s.size → wr.cell? ⟨w.heap.size, j, none⟩ = some (.int .u8 (s.data.toList.getD j 0).toNat)) ∧ Below w.heap.size w wr := by
  refine ⟨_, _, Lib.run_convert_string_bytes w 9 146 5 s Tryz.underlying9 Tryz.underlying146 Tryz.underlying5, fun j hj => Lib.bytesWorld_cell w 5 s j hj, ?_⟩
  exact ⟨rfl, rfl, rfl, by rw [Lib.bytesWorld_size]; omega, fun k hk => Lib.bytesWorld_at_old w 5 s k hk⟩
set_option maxRecDepth 20000 in
set_option maxHeartbeats 1000000 in
theorem plain_any (s : ByteArray) (w : World) (hs : s.size ≤ 16) :
    Calls Tryz.prog 120 #[.string s] w fun e w' => e = .returned (.bool (plainB s.data.toList)) ∧ Below w.heap.size w w' := by
  obtain ⟨c, wr, hrun, hcell, hb⟩ := conv_any s w
  have HB : Hid (Below w.heap.size w wr) := hb
  clear hb
  have hlen : s.data.toList.length = s.size := by simp
  have HL : Hid (s.data.toList.length = s.size) := hlen
  clear hlen
  go_enter Tryz.func120, Tryz.ntmps120
  go_wp2
  go_loop [10] (fun i => ∃ k : Nat, k ≤ s.size ∧ i = .int .i64 k ∧ Hid (plainB (s.data.toList.take k) = true)) (fun i => s.size - (intOf i).toNat)
  case atStart => exact ⟨0, Nat.zero_le _, rfl, rfl⟩
  case round =>
    obtain ⟨k, hk, rfl, HP⟩ := hrel
    by_cases hlt : k < s.size
    · have hc := hcell k hlt
      have hlt' : k < s.data.toList.length := by rw [HL.out]; exact hlt
      obtain ⟨x, hx⟩ : ∃ x : Int, x = ((s.data.toList.getD k 0).toNat : Int) := ⟨_, rfl⟩
      rw [← hx] at hc
      have hx0 : 0 ≤ x ∧ x < 256 := by have := (s.data.toList.getD k 0).toNat_lt; omega
      have HX : Hid (x = ((s.data.toList.getD k 0).toNat : Int)) := hx
      have HK : Hid (k < s.data.toList.length) := hlt'
      clear hx hlt' hcell
      cases ho : okC x with
      | true =>
        have hoc := okC_yes ho
        have HO : Hid (plainB (s.data.toList.take (k + 1)) = true) := plain_more _ k x HK.out HX.out HP.out ho
        clear ho
        go_wp2
        all_goals first
          | (exfalso; omega)
          | (go_round
             case rel => exact ⟨k + 1, by omega, by go_num, HO⟩
             case measure => simp [intOf]; omega)
      | false =>
        obtain ⟨hn1, hn2, hn3⟩ := okC_no ho
        have HO : Hid (plainB s.data.toList = false) := plain_not _ k x HK.out HX.out ho
        have hn4 : (x != 45) = true := by simpa using hn3
        have hr : x < 48 ∨ (57 < x ∧ x < 97) ∨ 122 < x := by omega
        clear ho hn3 hn1 hn2
        rcases hr with hr | ⟨hr, hr'⟩ | hr
        · go_wp2
          go_ret
          exact ⟨ret_bool HO.out.symm, HB.out⟩
        · have d1 : decide (x ≤ 57) = false := by simpa using hr
          go_wp2
          go_ret
          exact ⟨ret_bool HO.out.symm, HB.out⟩
        · have d1 : decide (x ≤ 57) = false := by simp; omega
          have d2 : decide (x ≤ 122) = false := by simpa using hr
          go_wp2
          go_ret
          exact ⟨ret_bool HO.out.symm, HB.out⟩
    · go_wp2
      go_ret
      exact ⟨ret_bool (by have := HP.out; rw [List.take_of_length_le (by rw [HL.out]; omega)] at this; exact this.symm), HB.out⟩
def wit (a x b : Int) : Bool := decide (a ≤ x) && decide (x ≤ b)
set_option maxRecDepth 20000 in
theorem within_any (a x b : Int) (w : World) :
    Calls Tryz.prog 119 #[.int .i64 a, .int .i64 x, .int .i64 b] w fun e w' => e = .returned (.bool (wit a x b)) ∧ w = w' := by
  by_cases h1 : a ≤ x
  · by_cases h2 : x ≤ b
    · go_enter Tryz.func119, Tryz.ntmps119
      go_wp2
      go_ret
      exact ⟨ret_bool (by simp [wit, h1, h2]), rfl⟩
    · have h3 : b < x := by omega
      go_enter Tryz.func119, Tryz.ntmps119
      go_wp2
      go_ret
      exact ⟨ret_bool (by simp [wit, h1, h3]), rfl⟩
  · have h3 : x < a := by omega
    go_enter Tryz.func119, Tryz.ntmps119
    go_wp2
    go_ret
    exact ⟨ret_bool (by simp [wit]; omega), rfl⟩
end Go.Proofs.YtblfmfanfpohbaaGreat
namespace Go.Proofs.YtblfmfanfpohbaaGreat
open Go.ChangeShapes Go.WideShapes Go.ChangeAt Go.RowKit
/-- the value of a version: no field but noughts -/
def verV : Int → Value
  | 1 => .iface 135 (.agg #[.int .i64 0, .int .i64 0, .int .i64 0, .int .i64 0, .int .i64 0])
  | 2 => .iface 137 (.agg #[.int .i64 0, .int .i64 0, .int .i64 0, .int .i64 0, .int .i64 0, .int .i64 0])
  | 3 => .iface 139 (.agg #[.int .i64 0, .int .i64 0, .int .i64 0, .int .i64 0, .int .i64 0, .int .i64 0, .int .i64 0])
  | 4 => .iface 141 (.agg #[.int .i64 0, .int .i64 0, .int .i64 0, .int .i64 0, .int .i64 0, .int .i64 0, .int .i64 0, .string ⟨#[]⟩])
  | _ => .iface 143 (.agg #[.int .i64 0, .int .i64 0, .int .i64 0, .int .i64 0, .int .i64 0, .int .i64 0, .int .i64 0, .string ⟨#[]⟩, .int .i64 0, .string ⟨#[]⟩])
set_option maxRecDepth 20000 in
theorem find_no (v : Int) (w : World) (h : v < 1 ∨ 5 < v) :
    Calls Tryz.prog 110 #[.int .i64 v] w fun e w' => e = .returned (.tuple #[.nilIface, .bool false]) ∧ w = w' := by
  have h1 : (v == 1) = false := by simp; omega
  have h2 : (v == 2) = false := by simp; omega
  have h3 : (v == 3) = false := by simp; omega
  have h4 : (v == 4) = false := by simp; omega
  have h5 : (v == 5) = false := by simp; omega
  clear h
  go_enter Tryz.func110, Tryz.ntmps110
  go_wp2
  go_ret2
  exact ⟨rfl, rfl⟩
set_option maxRecDepth 20000 in
theorem find_yes (v : Int) (w : World) (h1 : 1 ≤ v) (h2 : v ≤ 5) :
    Calls Tryz.prog 110 #[.int .i64 v] w fun e w' => e = .returned (.tuple #[verV v, .bool true]) ∧ w = w' := by
  have h : v = 1 ∨ v = 2 ∨ v = 3 ∨ v = 4 ∨ v = 5 := by omega
  clear h1 h2
  rcases h with rfl | rfl | rfl | rfl | rfl
  all_goals
    go_enter Tryz.func110, Tryz.ntmps110
    go_wp2
    go_ret2
    exact ⟨rfl, rfl⟩
end Go.Proofs.YtblfmfanfpohbaaGreat
namespace Go.Proofs.YtblfmfanfpohbaaGreat
open Go.ChangeShapes Go.WideShapes Go.ChangeAt Go.RowKit
theorem ev_cell {w w2 : World} {C : Array Value} {T : TypeId} (h : Below (w.heap.size + 1) (w.alloc (.cells C T)) w2) (i : Nat) (v : Value) (hv : C[i]? = some v) : w2.cell? ⟨w.heap.size, i, none⟩ = some v := by
  rw [h.cell (p := ⟨w.heap.size, i, none⟩) (Nat.lt_succ_self _)]
  rw [cell_of_row (w.alloc (.cells C T)) w.heap.size i C T (0, 0) (heap_alloc_new w _)]
  exact hv
theorem quiet_val {P : Program} {o : Oper} {a : Act} {C : World → Prop} {K : Act → Prop} {v : Value} (h : ∀ w, C w → (execOp a.eval o).run P w = .ok (.value v) w) (hk : K (a.put o.dst v)) : o.quiet P a C K :=
  ⟨v, fun w hw => by unfold Oper.quietAt; rw [h w hw]; exact ⟨rfl, rfl⟩, hk⟩
theorem quiet_call {P : Program} {o : Oper} {a : Act} {C : World → Prop} {K : Act → Prop} {v : Value} {f : FuncId} {args : Array Value} (h : ∀ w, C w → (execOp a.eval o).run P w = .ok (.enter f args) w) (hc : ∀ w, C w → Calls P f args w fun e w' => e = .returned v ∧ C w') (hk : K (a.put o.dst v)) : o.quiet P a C K :=
  ⟨v, fun w hw => by unfold Oper.quietAt; rw [h w hw]; exact ⟨rfl, hc w hw⟩, hk⟩
theorem ev_below {w w2 : World} {O : Obj} (h : Below (w.heap.size + 1) (w.alloc O) w2) : Below w.heap.size w w2 :=
  ((Below.refl _ _).alloc (Nat.le_refl _) O).trans (h.mono (by omega))
/-- a condition on worlds: the event lies in the block that was laid for it, and nothing older has turned -/
theorem ev_held (w : World) (k o i q p c t : Int) (wh : ByteArray) (s : Int) (n : ByteArray) : ∃ E : World → Prop, E (w.alloc (.cells #[.int .i64 k, .int .i64 o, .int .i64 i, .int .i64 q, .int .i64 p, .int .i64 c, .int .i64 t, .string wh, .int .i64 s, .string n] 38)) ∧ E (w.alloc (.cells #[.int .i64 k, .int .i64 o, .int .i64 i, .int .i64 q, .int .i64 p, .int .i64 c, .int .i64 t, .string wh, .int .i64 s, .string n] 38)).drew ∧ (∀ w1 w2, E w1 → Below w1.heap.size w1 w2 → E w2) ∧ (∀ w2, E w2 → Below w.heap.size w w2) ∧ (∀ w2, E w2 → w.heap.size < w2.heap.size) ∧ (∀ w2, E w2 → w2.cell? ⟨w.heap.size, 0, none⟩ = some (.int .i64 k)) ∧ (∀ w2, E w2 → w2.cell? ⟨w.heap.size, 1, none⟩ = some (.int .i64 o)) ∧ (∀ w2, E w2 → w2.cell? ⟨w.heap.size, 2, none⟩ = some (.int .i64 i)) ∧ (∀ w2, E w2 → w2.cell? ⟨w.heap.size, 3, none⟩ = some (.int .i64 q)) ∧ (∀ w2, E w2 → w2.cell? ⟨w.heap.size, 4, none⟩ = some (.int .i64 p)) ∧ (∀ w2, E w2 → w2.cell? ⟨w.heap.size, 5, none⟩ = some (.int .i64 c)) ∧ (∀ w2, E w2 → w2.cell? ⟨w.heap.size, 6, none⟩ = some (.int .i64 t)) ∧ (∀ w2, E w2 → w2.cell? ⟨w.heap.size, 7, none⟩ = some (.string wh)) ∧ (∀ w2, E w2 → w2.cell? ⟨w.heap.size, 8, none⟩ = some (.int .i64 s)) ∧ (∀ w2, E w2 → w2.cell? ⟨w.heap.size, 9, none⟩ = some (.string n)) := by
  refine ⟨fun w2 => Below (w.heap.size + 1) (w.alloc (.cells #[.int .i64 k, .int .i64 o, .int .i64 i, .int .i64 q, .int .i64 p, .int .i64 c, .int .i64 t, .string wh, .int .i64 s, .string n] 38)) w2, Below.refl _ _, (Below.refl _ _).drew, fun w1 w2 h h2 => h.trans (h2.mono ?_), fun w2 h => ev_below h, fun w2 h => ?_, fun w2 h => ev_cell h 0 _ rfl, fun w2 h => ev_cell h 1 _ rfl, fun w2 h => ev_cell h 2 _ rfl, fun w2 h => ev_cell h 3 _ rfl, fun w2 h => ev_cell h 4 _ rfl, fun w2 h => ev_cell h 5 _ rfl, fun w2 h => ev_cell h 6 _ rfl, fun w2 h => ev_cell h 7 _ rfl, fun w2 h => ev_cell h 8 _ rfl, fun w2 h => ev_cell h 9 _ rfl⟩
  · have := h.size
    simpa using this
  · have := h.size
    simp at this
    omega
set_option maxRecDepth 20000 in
theorem v1_least (v : Array Value) (w : World) : Calls Tryz.prog 141 #[.agg v] w fun e w' => e = .returned (.int .i64 (-10000)) ∧ Below w.heap.size w w' := by
  go_enter Tryz.func141, Tryz.ntmps141
  go_wp2
  go_ret
  exact ⟨rfl, (Below.refl _ _).alloc (Nat.le_refl _) _⟩
set_option maxRecDepth 20000 in
theorem v3_least (v : Array Value) (w : World) : Calls Tryz.prog 149 #[.agg v] w fun e w' => e = .returned (.int .i64 (0)) ∧ Below w.heap.size w w' := by
  go_enter Tryz.func149, Tryz.ntmps149
  go_wp2
  go_ret
  exact ⟨rfl, (Below.refl _ _).alloc (Nat.le_refl _) _⟩
set_option maxRecDepth 20000 in
theorem v1_most (v : Array Value) (w : World) : Calls Tryz.prog 142 #[.agg v] w fun e w' => e = .returned (.int .i64 (1000000)) ∧ Below w.heap.size w w' := by
  go_enter Tryz.func142, Tryz.ntmps142
  go_wp2
  go_ret
  exact ⟨rfl, (Below.refl _ _).alloc (Nat.le_refl _) _⟩
set_option maxRecDepth 20000 in
theorem v2_most (v : Array Value) (w : World) : Calls Tryz.prog 146 #[.agg v] w fun e w' => e = .returned (.int .i64 (100000000)) ∧ Below w.heap.size w w' := by
  go_enter Tryz.func146, Tryz.ntmps146
  go_wp2
  go_ret
  exact ⟨rfl, (Below.refl _ _).alloc (Nat.le_refl _) _⟩
set_option maxRecDepth 20000 in
theorem v1_last (v : Array Value) (w : World) : Calls Tryz.prog 140 #[.agg v] w fun e w' => e = .returned (.int .i64 (5)) ∧ Below w.heap.size w w' := by
  go_enter Tryz.func140, Tryz.ntmps140
  go_wp2
  go_ret
  exact ⟨rfl, (Below.refl _ _).alloc (Nat.le_refl _) _⟩
set_option maxRecDepth 20000 in
theorem v3_last (v : Array Value) (w : World) : Calls Tryz.prog 148 #[.agg v] w fun e w' => e = .returned (.int .i64 (7)) ∧ Below w.heap.size w w' := by
  go_enter Tryz.func148, Tryz.ntmps148
  go_wp2
  go_ret
  exact ⟨rfl, (Below.refl _ _).alloc (Nat.le_refl _) _⟩
set_option maxRecDepth 20000 in
theorem v4_last (v : Array Value) (w : World) : Calls Tryz.prog 153 #[.agg v] w fun e w' => e = .returned (.int .i64 (9)) ∧ Below w.heap.size w w' := by
  go_enter Tryz.func153, Tryz.ntmps153
  go_wp2
  go_ret
  exact ⟨rfl, (Below.refl _ _).alloc (Nat.le_refl _) _⟩
set_option maxRecDepth 20000 in
theorem v5_last (v : Array Value) (w : World) : Calls Tryz.prog 155 #[.agg v] w fun e w' => e = .returned (.int .i64 (10)) ∧ Below w.heap.size w w' := by
  go_enter Tryz.func155, Tryz.ntmps155
  go_wp2
  go_ret
  exact ⟨rfl, (Below.refl _ _).alloc (Nat.le_refl _) _⟩
theorem m_least1 (w : World) : (method 281 135 (.agg #[.int .i64 0, .int .i64 0, .int .i64 0, .int .i64 0, .int .i64 0]) "daybook/schema.leastQty").run Tryz.prog w = .ok (141, .agg #[.int .i64 0, .int .i64 0, .int .i64 0, .int .i64 0, .int .i64 0]) w := by kernel_rfl
theorem m_least2 (w : World) : (method 281 137 (.agg #[.int .i64 0, .int .i64 0, .int .i64 0, .int .i64 0, .int .i64 0, .int .i64 0]) "daybook/schema.leastQty").run Tryz.prog w = .ok (141, .agg #[.int .i64 0, .int .i64 0, .int .i64 0, .int .i64 0, .int .i64 0]) w := by kernel_rfl
theorem m_least3 (w : World) : (method 281 139 (.agg #[.int .i64 0, .int .i64 0, .int .i64 0, .int .i64 0, .int .i64 0, .int .i64 0, .int .i64 0]) "daybook/schema.leastQty").run Tryz.prog w = .ok (149, .agg #[.int .i64 0, .int .i64 0, .int .i64 0, .int .i64 0, .int .i64 0, .int .i64 0, .int .i64 0]) w := by kernel_rfl
theorem m_least4 (w : World) : (method 281 141 (.agg #[.int .i64 0, .int .i64 0, .int .i64 0, .int .i64 0, .int .i64 0, .int .i64 0, .int .i64 0, .string ⟨#[]⟩]) "daybook/schema.leastQty").run Tryz.prog w = .ok (149, .agg #[.int .i64 0, .int .i64 0, .int .i64 0, .int .i64 0, .int .i64 0, .int .i64 0, .int .i64 0]) w := by kernel_rfl
theorem m_least5 (w : World) : (method 281 143 (.agg #[.int .i64 0, .int .i64 0, .int .i64 0, .int .i64 0, .int .i64 0, .int .i64 0, .int .i64 0, .string ⟨#[]⟩, .int .i64 0, .string ⟨#[]⟩]) "daybook/schema.leastQty").run Tryz.prog w = .ok (149, .agg #[.int .i64 0, .int .i64 0, .int .i64 0, .int .i64 0, .int .i64 0, .int .i64 0, .int .i64 0]) w := by kernel_rfl
theorem m_most1 (w : World) : (method 281 135 (.agg #[.int .i64 0, .int .i64 0, .int .i64 0, .int .i64 0, .int .i64 0]) "daybook/schema.mostPrice").run Tryz.prog w = .ok (142, .agg #[.int .i64 0, .int .i64 0, .int .i64 0, .int .i64 0, .int .i64 0]) w := by kernel_rfl
theorem m_most2 (w : World) : (method 281 137 (.agg #[.int .i64 0, .int .i64 0, .int .i64 0, .int .i64 0, .int .i64 0, .int .i64 0]) "daybook/schema.mostPrice").run Tryz.prog w = .ok (146, .agg #[.int .i64 0, .int .i64 0, .int .i64 0, .int .i64 0, .int .i64 0, .int .i64 0]) w := by kernel_rfl
theorem m_most3 (w : World) : (method 281 139 (.agg #[.int .i64 0, .int .i64 0, .int .i64 0, .int .i64 0, .int .i64 0, .int .i64 0, .int .i64 0]) "daybook/schema.mostPrice").run Tryz.prog w = .ok (146, .agg #[.int .i64 0, .int .i64 0, .int .i64 0, .int .i64 0, .int .i64 0, .int .i64 0]) w := by kernel_rfl
theorem m_most4 (w : World) : (method 281 141 (.agg #[.int .i64 0, .int .i64 0, .int .i64 0, .int .i64 0, .int .i64 0, .int .i64 0, .int .i64 0, .string ⟨#[]⟩]) "daybook/schema.mostPrice").run Tryz.prog w = .ok (146, .agg #[.int .i64 0, .int .i64 0, .int .i64 0, .int .i64 0, .int .i64 0, .int .i64 0]) w := by kernel_rfl
theorem m_most5 (w : World) : (method 281 143 (.agg #[.int .i64 0, .int .i64 0, .int .i64 0, .int .i64 0, .int .i64 0, .int .i64 0, .int .i64 0, .string ⟨#[]⟩, .int .i64 0, .string ⟨#[]⟩]) "daybook/schema.mostPrice").run Tryz.prog w = .ok (146, .agg #[.int .i64 0, .int .i64 0, .int .i64 0, .int .i64 0, .int .i64 0, .int .i64 0]) w := by kernel_rfl
theorem m_last1 (w : World) : (method 281 135 (.agg #[.int .i64 0, .int .i64 0, .int .i64 0, .int .i64 0, .int .i64 0]) "daybook/schema.lastKind").run Tryz.prog w = .ok (140, .agg #[.int .i64 0, .int .i64 0, .int .i64 0, .int .i64 0, .int .i64 0]) w := by kernel_rfl
theorem m_last2 (w : World) : (method 281 137 (.agg #[.int .i64 0, .int .i64 0, .int .i64 0, .int .i64 0, .int .i64 0, .int .i64 0]) "daybook/schema.lastKind").run Tryz.prog w = .ok (140, .agg #[.int .i64 0, .int .i64 0, .int .i64 0, .int .i64 0, .int .i64 0]) w := by kernel_rfl
theorem m_last3 (w : World) : (method 281 139 (.agg #[.int .i64 0, .int .i64 0, .int .i64 0, .int .i64 0, .int .i64 0, .int .i64 0, .int .i64 0]) "daybook/schema.lastKind").run Tryz.prog w = .ok (148, .agg #[.int .i64 0, .int .i64 0, .int .i64 0, .int .i64 0, .int .i64 0, .int .i64 0, .int .i64 0]) w := by kernel_rfl
theorem m_last4 (w : World) : (method 281 141 (.agg #[.int .i64 0, .int .i64 0, .int .i64 0, .int .i64 0, .int .i64 0, .int .i64 0, .int .i64 0, .string ⟨#[]⟩]) "daybook/schema.lastKind").run Tryz.prog w = .ok (153, .agg #[.int .i64 0, .int .i64 0, .int .i64 0, .int .i64 0, .int .i64 0, .int .i64 0, .int .i64 0, .string ⟨#[]⟩]) w := by kernel_rfl
theorem m_last5 (w : World) : (method 281 143 (.agg #[.int .i64 0, .int .i64 0, .int .i64 0, .int .i64 0, .int .i64 0, .int .i64 0, .int .i64 0, .string ⟨#[]⟩, .int .i64 0, .string ⟨#[]⟩]) "daybook/schema.lastKind").run Tryz.prog w = .ok (155, .agg #[.int .i64 0, .int .i64 0, .int .i64 0, .int .i64 0, .int .i64 0, .int .i64 0, .int .i64 0, .string ⟨#[]⟩, .int .i64 0, .string ⟨#[]⟩]) w := by kernel_rfl
def bnd (l m o i q p c t : Int) (wh : ByteArray) (s : Int) : Bool := wit 1 o 1099511627776 && (wit 0 i 65535 && (wit l q 10000 && (wit 0 p m && (wit 0 c 3 && (wit 0 t 5000 && (plainB wh.data.toList && wit 0 s 1099511627776))))))
end Go.Proofs.YtblfmfanfpohbaaGreat
namespace Go.Proofs.YtblfmfanfpohbaaGreat
open Go.ChangeShapes Go.WideShapes Go.ChangeAt Go.RowKit
theorem drewN_add (w : World) (a b : Nat) : (w.drewN a).drewN b = w.drewN (a + b) := by
  induction b with
  | zero => rfl
  | succ b ih => show ((w.drewN a).drewN b).drew = (w.drewN (a + b)).drew; rw [ih]
theorem same_end (l m : List Nat) (hl : l.length = m.length) (h : ∀ i, i < l.length → l.getD i 0 = m.getD i 0) : l = m := by
  apply List.ext_getElem hl
  intro i h1 h2
  have := h i h1
  simpa [List.getD_eq_getElem?_getD, List.getElem?_eq_getElem h1, List.getElem?_eq_getElem h2] using this
end Go.Proofs.YtblfmfanfpohbaaGreat
