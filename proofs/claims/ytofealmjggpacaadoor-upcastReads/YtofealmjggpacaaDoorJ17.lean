/- Own texts, joined: Slc, Apn, Apb. -/
import Derived.Test.YtofealmjggpacaaDoorJ00
import Derived.Test.YtofealmjggpacaaDoorRows
import Derived.Test.YtofealmjggpacaaDoorJ06
import Derived.Deep.AppendLies
import Derived.Laws.AppendOwnNone
namespace Go.Proofs.YtofealmjggpacaaDoor
open Go.ChangeShapes Go.WideShapes Go.ChangeAt Go.RowKit
set_option linter.unusedVariables false
theorem bytes_cut {w : World} {a : Option Addr} {l : List Nat} (h : Bytes w a l) (i cap : Nat) (hi : i ≤ l.length) (hc : l.length ≤ cap) : Bytes w (if cap = i then a else a.map (·.add (i * 1))) (l.drop i) := by
  by_cases hci : cap = i
  · rw [if_pos hci, List.drop_of_length_le (by omega)]
    exact Bytes.none _ _
  · rw [if_neg hci]
    rcases h.2 with rfl | ⟨b, off, rfl, hlt, hcell⟩
    · rw [List.drop_nil]
      exact Bytes.none _ _
    · have e : (⟨b, off, none⟩ : Addr).add (i * 1) = ⟨b, off + i, none⟩ := by rw [Nat.mul_one]; simp [Addr.add]
      rw [Option.map_some, e]
      exact h.drop i
theorem slice_under : Tryd.prog.underlying 22 = some (.slice (Tryd.prog.elem 22)) := by kernel_rfl
theorem slice_size (w : World) : (sizeOf (Tryd.prog.elem 22)).run Tryd.prog w = .ok 1 w := by kernel_rfl
theorem at_slice {ops : Array Oper} {rest : List Oper} {a : Act} {w : World} {Q : Exit → Act → World → Prop} {dst : Option Tmp} {ty : TypeId} {pos : String} {after : Array Edge} {s lo : Operand}
    (h : wpList Tryd.prog ops Q (⟨dst, .slice 22 s (some lo) none none, ty, pos, after, none⟩ :: rest) a w) : wpList Tryd.prog ops Q (⟨dst, .slice 22 s (some lo) none none, ty, pos, after, none⟩ :: rest) a w := h
theorem wpList_slice_l {ops : Array Oper} {rest : List Oper} {o : Oper} {a : Act} {w : World} {Q : Exit → Act → World → Prop} (hgd : o.guard = none) (s lo : Operand) (ho : o.op = .slice 22 s (some lo) none none)
    {A : Option Addr} {n cap i : Nat} {l : List Nat} (hs : a.eval s = .slice A n cap) (hlo : a.eval lo = .int .i64 (i : Int)) (hi : i ≤ n) (hn : n ≤ cap) (hl : l.length = n) (hb : Bytes w A l)
    (h : ∀ x, Bytes w x (l.drop i) → wpList Tryd.prog ops Q rest (a.put o.dst (.slice x (n - i) (cap - i))) w) : wpList Tryd.prog ops Q (o :: rest) a w :=
  wpList_plain hgd fun _ hK => by
    have hrun := run_slice_l (P := Tryd.prog) w 22 A n cap slice_under .i64 (i : Int) (by omega) (by omega)
    unfold Oper.wp execOp
    simp only [ho, hs, hlo, Option.map_some, Option.map_none, Sem.run_bind, Sem.run_pure, Result.andThen_ok, run_sliceAt_slice (P := Tryd.prog) w 22 _ _ _ _ slice_under, hrun, slice_size, sliced, Int.toNat_natCast]
    exact hK _ _ (h _ (bytes_cut hb i cap (by omega) (by omega)))
end Go.Proofs.YtofealmjggpacaaDoor
namespace Go.Proofs.YtofealmjggpacaaDoor
open Go.ChangeShapes Go.WideShapes Go.ChangeAt Go.RowKit
set_option linter.unusedVariables false
theorem grownBy_refl (w : World) (r : Option Nat) : w.grownBy w r := ⟨rfl, rfl, rfl, Nat.le_refl _, fun _ _ _ => rfl⟩
theorem run_append_any {P : Program} (w : World) (t ty : TypeId) (base : Nat) (i : TypeInfo) (ht : P.underlying t = some (.slice 5)) (hi : P.info? 5 = some i) (hz : i.zero = some (.int .u8 0)) (hsize : i.size = 1) (hby : i.bytes = 1)
    (v : Value) (n : Nat) (xs : List Value) (hown : w.ownsRow base 5 1 v n xs) (hn : 0 < n) (xa : Option Addr) (m c : Nat) (l : List Nat) (hl : l.length = m) (hb : Bytes w xa l) (hc : xa = none → c = 0)
    (h63 : n + m ≤ 140737488355328) (hbase : base ≤ w.heap.size) :
    ∃ g cap w', (Builtin.append_ #[t, t] ty #[v, .slice xa m c]).run P w = .ok (.slice (some ⟨g, 0, none⟩) (n + m) cap) w' ∧
      w'.ownsRow base 5 1 (.slice (some ⟨g, 0, none⟩) (n + m) cap) (n + m) (xs ++ B8 l) ∧ w.grownBy w' v.ownBlock := by
  subst hl
  cases xa with
  | none =>
    obtain rfl := hc rfl
    have hl0 : l = [] := by
      rcases hb.2 with h | ⟨b, off, h, _⟩
      · exact h
      · cases h
    subst hl0
    obtain ⟨g, cap, rfl, _⟩ := hown.form hn
    exact ⟨g, cap, w, run_append_owned_none (P := P) (w := w) base t ty 5 i 1 ht hi _ n xs hown, by simpa [B8] using hown, grownBy_refl _ _⟩
  | some ad =>
    obtain ⟨v', w', hr, h2, h3, _, h5⟩ := run_append_own_at (P := P) w base t ty 5 i (.int .u8 0) 1 1 ht hi hz hsize hby rfl (by decide) v n xs hown ad l.length c (B8 l) (B8_length l) (bytes_cells hb) (B8_one l) (by unfold maxLen; omega) (by omega) hbase
    obtain ⟨g, cap, rfl, _⟩ := h2.form (by omega)
    exact ⟨g, cap, w', hr, h2, h3⟩
theorem wp_append_any {P : Program} (w : World) {o : Oper} {a : Act} {K : Act → World → Prop} {Q : Exit → Act → World → Prop} (s x : Operand) (t : TypeId)
    (ho : o.op = .call { callee := .builtin .append, args := #[s, x], argTypes := #[t, t] })
    (base : Nat) (i : TypeInfo) (ht : P.underlying t = some (.slice 5)) (hi : P.info? 5 = some i) (hz : i.zero = some (.int .u8 0)) (hsize : i.size = 1) (hby : i.bytes = 1)
    (v : Value) (n : Nat) (xs : List Value) (hs : a.eval s = v) (hown : w.ownsRow base 5 1 v n xs) (hn : 0 < n) (xa : Option Addr) (m c : Nat) (l : List Nat) (hx : a.eval x = .slice xa m c) (hl : l.length = m) (hb : Bytes w xa l) (hc : xa = none → c = 0)
    (h63 : n + m ≤ 140737488355328) (hbase : base ≤ w.heap.size)
    (h : ∀ g cap w', w'.ownsRow base 5 1 (.slice (some ⟨g, 0, none⟩) (n + m) cap) (n + m) (xs ++ B8 l) → w.grownBy w' v.ownBlock → K (a.put o.dst (.slice (some ⟨g, 0, none⟩) (n + m) cap)) w') : Oper.wp P o a w K Q := by
  obtain ⟨g, cap, w', hr, h2, h3⟩ := run_append_any (P := P) w t o.type base i ht hi hz hsize hby v n xs hown hn xa m c l hl hb hc h63 hbase
  unfold Oper.wp
  simp [execOp, ho, resolve, invoke, builtin, hs, hx, hr, Result.andThen]
  exact h g cap w' h2 h3
theorem wpList_append_any {P : Program} (w : World) {ops : Array Oper} {rest : List Oper} {o : Oper} {a : Act} {Q : Exit → Act → World → Prop} (hgd : o.guard = none) (s x : Operand) (t : TypeId)
    (ho : o.op = .call { callee := .builtin .append, args := #[s, x], argTypes := #[t, t] })
    (base : Nat) (i : TypeInfo) (ht : P.underlying t = some (.slice 5)) (hi : P.info? 5 = some i) (hz : i.zero = some (.int .u8 0)) (hsize : i.size = 1) (hby : i.bytes = 1)
    (v : Value) (n : Nat) (xs : List Value) (hs : a.eval s = v) (hown : w.ownsRow base 5 1 v n xs) (hn : 0 < n) (xa : Option Addr) (m c : Nat) (l : List Nat) (hx : a.eval x = .slice xa m c) (hl : l.length = m) (hb : Bytes w xa l) (hc : xa = none → c = 0)
    (h63 : n + m ≤ 140737488355328) (hbase : base ≤ w.heap.size)
    (h : ∀ g cap w', w'.ownsRow base 5 1 (.slice (some ⟨g, 0, none⟩) (n + m) cap) (n + m) (xs ++ B8 l) → w.grownBy w' v.ownBlock → wpList P ops Q rest (a.put o.dst (.slice (some ⟨g, 0, none⟩) (n + m) cap)) w') : wpList P ops Q (o :: rest) a w :=
  wpList_plain hgd fun K hK => wp_append_any w s x t ho base i ht hi hz hsize hby v n xs hs hown hn xa m c l hx hl hb hc h63 hbase (fun g cap w' h1 h2 => hK _ _ (h g cap w' h1 h2))
theorem step_append_any {P : Program} (w : World) {ops : Array Oper} {o : Oper} {a : Act} {K : Act → World → Prop} {Q : Exit → Act → World → Prop} {E : Prop} (hgd : o.guard = none) (s x : Operand) (t : TypeId)
    (ho : o.op = .call { callee := .builtin .append, args := #[s, x], argTypes := #[t, t] })
    (base : Nat) (i : TypeInfo) (ht : P.underlying t = some (.slice 5)) (hi : P.info? 5 = some i) (hz : i.zero = some (.int .u8 0)) (hsize : i.size = 1) (hby : i.bytes = 1)
    (v : Value) (n : Nat) (xs : List Value) (hs : a.eval s = v) (hown : w.ownsRow base 5 1 v n xs) (hn : 0 < n) (xa : Option Addr) (m c : Nat) (l : List Nat) (hx : a.eval x = .slice xa m c) (hl : l.length = m) (hb : Bytes w xa l) (hc : xa = none → c = 0)
    (h63 : n + m ≤ 140737488355328) (hbase : base ≤ w.heap.size)
    (h : ∀ g cap w', w'.ownsRow base 5 1 (.slice (some ⟨g, 0, none⟩) (n + m) cap) (n + m) (xs ++ B8 l) → w.grownBy w' v.ownBlock → K (a.put o.dst (.slice (some ⟨g, 0, none⟩) (n + m) cap)) w') :
    if Region.wanted o (yielded ops a.tmps) = true then Oper.wp P o a w K Q else E := by
  have hw : Region.wanted o (yielded ops a.tmps) = true := by simp [Region.wanted, hgd]
  rw [if_pos hw]
  exact wp_append_any w s x t ho base i ht hi hz hsize hby v n xs hs hown hn xa m c l hx hl hb hc h63 hbase h
end Go.Proofs.YtofealmjggpacaaDoor
namespace Go.Proofs.YtofealmjggpacaaDoor
open Go.ChangeShapes Go.WideShapes Go.ChangeAt Go.RowKit
set_option linter.unusedVariables false
theorem wpList_append_b {P : Program} {w : World} {ops : Array Oper} {rest : List Oper} {o : Oper} {a : Act} {Q : Exit → Act → World → Prop} (hgd : o.guard = none) (s x : Operand) (t : TypeId)
    (ho : o.op = .call { callee := .builtin .append, args := #[s, x], argTypes := #[t, t] })
    (base : Nat) (i : TypeInfo) (ht : P.underlying t = some (.slice 5)) (hi : P.info? 5 = some i) (hz : i.zero = some (.int .u8 0)) (hsize : i.size = 1) (hby : i.bytes = 1)
    (v : Value) (n : Nat) (xs : List Value) (hs : a.eval s = v) (hown : w.ownsRow base 5 1 v n xs) (xa : Option Addr) (m c : Nat) (l : List Nat) (hx : a.eval x = .slice xa m c) (hl : l.length = m) (hb : Bytes w xa l) (hc : xa = none → c = 0)
    (h63 : n + m ≤ 140737488355328) (hbase : base ≤ w.heap.size)
    (h : ∀ v' w', w'.ownsRow base 5 1 v' (n + m) (xs ++ B8 l) → w.grownBy w' v.ownBlock → wpList P ops Q rest (a.put o.dst v') w') : wpList P ops Q (o :: rest) a w := by
  cases xa with
  | none =>
    have hl0 : l = [] := by
      rcases hb.2 with h | ⟨b, off, h, _⟩
      · exact h
      · cases h
    subst hl0
    have hm0 : m = 0 := by simpa using hl.symm
    subst hm0
    have hc0 := hc rfl
    subst hc0
    exact wpList_append_own_none hgd s x t ho base 5 i 1 ht hi v n xs hs hown hx (h v w (by simpa [B8] using hown) ⟨rfl, rfl, rfl, Nat.le_refl _, fun _ _ _ => rfl⟩)
  | some ad =>
    rcases hb.2 with hl0 | ⟨b, off, he, hlt, hcell⟩
    · subst hl0
      have hm0 : m = 0 := by simpa using hl.symm
      subst hm0
      exact wpList_append_own w hgd s x t ho base 5 i (.int .u8 0) 1 1 ht hi hz hsize hby rfl (by decide) v n xs hs hown ad 0 c [] hx rfl (fun j u hj => by simp at hj) (fun u hu => by cases hu) (by unfold maxLen; omega) (by omega) hbase (fun v' w' h1 h2 _ => h v' w' (by simpa [B8] using h1) h2)
    · cases he
      exact wpList_append_own w hgd s x t ho base 5 i (.int .u8 0) 1 1 ht hi hz hsize hby rfl (by decide) v n xs hs hown ⟨b, off, none⟩ m c (B8 l) hx (by rw [B8_length, hl, Nat.mul_one]) (bytes_cells hb) (B8_one _) (by unfold maxLen; omega) (by omega) hbase (fun v' w' h1 h2 _ => h v' w' h1 h2)
end Go.Proofs.YtofealmjggpacaaDoor
