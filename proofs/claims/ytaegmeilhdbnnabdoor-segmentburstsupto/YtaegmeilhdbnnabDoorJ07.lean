/- Own texts, joined: Sc6, Sc7, Apn, Fr7. -/
import Derived.Test.YtaegmeilhdbnnabDoorJ05
import Derived.Test.YtaegmeilhdbnnabDoorJ06
import Derived.Deep.RegionHeld3
import Derived.Test.YtaegmeilhdbnnabDoorJ02
import Derived.Deep.AppendLies
import Derived.Laws.AppendOwnNone
import Derived.Deep.Onto
namespace Go.Proofs.YtaegmeilhdbnnabDoor
open Go.ChangeShapes Go.WideShapes Go.ChangeAt Go.RowKit Go.Shelf
set_option linter.unusedVariables false
attribute [local go_sem] Oper.semAt_some
/-- a slice of placed frames that is a call's own, their bodies too -/
def OwnP (w : World) (base : Nat) (v : Value) (xs : List It) : Prop := w.ownsRow base 46 5 v xs.length (pflt xs) ∧ ∀ x ∈ xs, Own w base x.bv x.fm.body
theorem OwnP.below {W W' : World} {base : Nat} {v : Value} {xs : List It} (h : OwnP W base v xs) (hb : Below W.heap.size W W') : OwnP W' base v xs :=
  ⟨own_below h.1 hb, fun x hx => ⟨(h.2 x hx).1, own_below (h.2 x hx).2 hb⟩⟩
theorem OwnP.drew {W : World} {base : Nat} {v : Value} {xs : List It} (h : OwnP W base v xs) : OwnP W.drew base v xs := h
theorem OwnP.mono {W : World} {base base' : Nat} {v : Value} {xs : List It} (h : OwnP W base v xs) (hb : base' ≤ base) : OwnP W base' v xs :=
  ⟨World.ownsRow.mono h.1 hb, fun x hx => ⟨(h.2 x hx).1, World.ownsRow.mono (h.2 x hx).2 hb⟩⟩
theorem OwnP.lit (w : World) : OwnP (w.alloc (.cells #[] 46)) w.heap.size (.slice (some ⟨w.heap.size, 0, none⟩) 0 0) [] := ⟨World.ownsRow_lit w #[] 0 (Nat.le_refl _) (by simp) rfl, fun x hx => by cases hx⟩
theorem OwnP.nil (w : World) (base : Nat) : OwnP w base (.slice none 0 0) [] := ⟨World.ownsRow_nil _ _ _ _, fun x hx => by cases hx⟩
theorem OwnP.shape {w : World} {base : Nat} {v : Value} {xs : List It} (h : OwnP w base v xs) : ∃ a c, v = .slice a xs.length c := row_shape h.1
theorem body_kept {W w5 : World} {base n base' : Nat} {v bv : Value} {xs : List Value} {l : List Nat} (ho : W.ownsRow base 46 5 v n xs) (hg : W.grownBy w5 v.ownBlock) (h : Own W base' bv l) : Own w5 base' bv l := by
  refine ⟨h.1, h.2.1, ?_⟩
  rcases h.2.2 with h2 | ⟨g, cap, cur, g3, g4, g5, g6⟩
  · exact .inl h2
  · refine .inr ⟨g, cap, cur, g3, g4, ?_, g6⟩
    rw [hg.block g (lt_of_heap g5) (fun e => ?_)]
    · exact g5
    · rcases ho.2 with ⟨rfl, _⟩ | ⟨g', cap', cur', rfl, _, hh, _⟩
      · simp [Value.ownBlock] at e
      · have : g = g' := by simpa [Value.ownBlock] using e
        subst this
        rw [g5] at hh
        cases hh
theorem OwnP.snoc {W w5 : World} {base : Nat} {v v' : Value} {xs : List It} {x : It} (h : OwnP W base v xs) (hx : Own W base x.bv x.fm.body) (hg : W.grownBy w5 v.ownBlock) (h5 : w5.ownsRow base 46 5 v' (xs.length + 1) (pflt xs ++ pflt [x])) : OwnP w5 base v' (xs ++ [x]) := by
  refine ⟨by rw [List.length_append, pflt_append]; exact h5, fun y hy => ?_⟩
  rcases List.mem_append.1 hy with hy | hy
  · exact body_kept h.1 hg (h.2 y hy)
  · simp at hy
    subst hy
    exact body_kept h.1 hg hx
end Go.Proofs.YtaegmeilhdbnnabDoor
namespace Go.Proofs.YtaegmeilhdbnnabDoor
open Go.ChangeShapes Go.WideShapes Go.ChangeAt Go.RowKit Go.Shelf
set_option linter.unusedVariables false
theorem get_lt {α : Type} {L : List α} {k : Nat} {p : α} (h : L[k]? = some p) : k < L.length := (List.getElem?_eq_some_iff.1 h).1
theorem lt_get {α : Type} {L : List α} {k : Nat} (h : k < L.length) : ∃ p, L[k]? = some p := ⟨L[k], List.getElem?_eq_getElem h⟩
structure PlcA (w : World) (a : Option Addr) (xs : List It) : Prop where
  lie : xs = [] ∨ ∃ b off, a = some ⟨b, off, none⟩ ∧ b < w.heap.size ∧ ∀ j, j < xs.length * 5 → w.cell? ⟨b, off + j, none⟩ = (pflt xs)[j]?
  byt : ∀ x ∈ xs, ∃ a2 c2, x.bv = .slice a2 x.fm.body.length c2 ∧ Bytes w a2 x.fm.body ∧ x.fm.body.length ≤ maxLen
theorem PlcA.keep {w w' : World} {a : Option Addr} {xs : List It} (h : PlcA w a xs) (hb : Below w.heap.size w w') : PlcA w' a xs := by
  refine ⟨?_, fun x hx => ?_⟩
  · rcases h.lie with h1 | ⟨b, off, h1, h2, h3⟩
    · exact .inl h1
    · exact .inr ⟨b, off, h1, Nat.lt_of_lt_of_le h2 hb.size, fun j hj => (hb.cell (p := ⟨b, off + j, none⟩) h2).trans (h3 j hj)⟩
  · obtain ⟨a2, c2, h1, h2, h3⟩ := h.byt x hx
    exact ⟨a2, c2, h1, h2.keep hb, h3⟩
theorem OwnP.plc {w : World} {base : Nat} {v : Value} {xs : List It} (h : OwnP w base v xs) : ∃ a c, v = .slice a xs.length c ∧ PlcA w a xs := by
  have hby : ∀ x ∈ xs, ∃ a2 c2, x.bv = .slice a2 x.fm.body.length c2 ∧ Bytes w a2 x.fm.body ∧ x.fm.body.length ≤ maxLen := fun x hx => by
    obtain ⟨a2, c2, h1, h2, h3, h4, _⟩ := (h.2 x hx).shape
    exact ⟨a2, c2, h1, h4, Nat.le_trans h2 h3⟩
  rcases h.1.2 with ⟨h1, h2⟩ | ⟨g, cap, cur, h1, h3, h4, h5⟩
  · have : xs = [] := List.length_eq_zero_iff.1 h2
    subst this
    exact ⟨none, 0, h1, .inl rfl, hby⟩
  · refine ⟨_, cap, h1, .inr ⟨g, 0, rfl, lt_of_heap h4, fun j hj => ?_⟩, hby⟩
    have h' := h.1
    rw [h1] at h'
    rw [Nat.zero_add]
    exact h'.cellAt j hj
theorem pflt_get : ∀ (xs : List It) (k : Nat) (x : It), xs[k]? = some x → (pflt xs)[k * 5]? = some (.int .i64 (x.fm.pos : Int)) ∧ (pflt xs)[k * 5 + 1]? = some (.int .i64 ((x.fm.body.length : Int) + 20)) ∧ (pflt xs)[k * 5 + 2]? = some (.int .i64 (x.fm.kind : Int)) ∧ (pflt xs)[k * 5 + 3]? = some (.int .i64 (x.fm.seq : Int)) ∧ (pflt xs)[k * 5 + 4]? = some x.bv
  | [], k, x, h => by simp at h
  | y :: r, 0, x, h => by simp at h; subst h; simp [pflt]
  | y :: r, k + 1, x, h => by
    have := pflt_get r k x (by simpa using h)
    rw [show (k + 1) * 5 = k * 5 + 5 from by omega]
    simpa [pflt] using this
theorem PlcA.at {w : World} {a : Option Addr} {xs : List It} (h : PlcA w a xs) (k : Nat) (x : It) (hx : xs[k]? = some x) : ∃ b off, a = some ⟨b, off, none⟩ ∧ b < w.heap.size ∧ w.cell? ⟨b, off + k * 5, none⟩ = some (.int .i64 (x.fm.pos : Int)) ∧ w.cell? ⟨b, off + k * 5 + 1, none⟩ = some (.int .i64 ((x.fm.body.length : Int) + 20)) ∧ w.cell? ⟨b, off + k * 5 + 2, none⟩ = some (.int .i64 (x.fm.kind : Int)) ∧ w.cell? ⟨b, off + k * 5 + 3, none⟩ = some (.int .i64 (x.fm.seq : Int)) ∧ w.cell? ⟨b, off + k * 5 + 4, none⟩ = some x.bv := by
  have hk := get_lt hx
  obtain ⟨f0, f1, f2, f3, f4⟩ := pflt_get xs k x hx
  rcases h.lie with rfl | ⟨b, off, h1, h2, h3⟩
  · simp at hk
  · exact ⟨b, off, h1, h2, (h3 (k * 5) (by omega)).trans f0, (h3 (k * 5 + 1) (by omega)).trans f1, (h3 (k * 5 + 2) (by omega)).trans f2, (h3 (k * 5 + 3) (by omega)).trans f3, (h3 (k * 5 + 4) (by omega)).trans f4⟩
end Go.Proofs.YtaegmeilhdbnnabDoor
namespace Go.Proofs.YtaegmeilhdbnnabDoor
open Go.ChangeShapes Go.WideShapes Go.ChangeAt Go.RowKit
set_option linter.unusedVariables false
theorem grownBy_refl (w : World) (r : Option Nat) : w.grownBy w r := ⟨rfl, rfl, rfl, Nat.le_refl _, fun _ _ _ => rfl⟩
theorem run_append_any {P : Program} (w : World) (t ty : TypeId) (base : Nat) (i : TypeInfo) (ht : P.underlying t = some (.slice 5)) (hi : P.info? 5 = some i) (hz : i.zero = some (.int .u8 0)) (hsize : i.size = 1) (hby : i.bytes = 1)
    (v : Value) (n : Nat) (xs : List Value) (hown : w.ownsRow base 5 1 v n xs) (hn : 0 < n) (xa : Option Addr) (m c : Nat) (l : List Nat) (hl : l.length = m) (hb : Bytes w xa l) (hc : xa = none → c = 0)
    (h63 : n + m ≤ 140737488355328) (hbase : base ≤ w.heap.size) :
    ∃ g cap w', (Builtin.append_ #[t, t] ty #[v, .slice xa m c]).run P w = .ok (.slice (some ⟨g, 0, none⟩) (n + m) cap) w' ∧
      w'.ownsRow base 5 1 (.slice (some ⟨g, 0, none⟩) (n + m) cap) (n + m) (xs ++ B8 l) ∧ w.grownBy w' v.ownBlock := by
  subst hl
  cases xa with
  | none =>
    obtain rfl := hc rfl
    have hl0 : l = [] := by
      rcases hb.2 with h | ⟨b, off, h, _⟩
      · exact h
      · cases h
    subst hl0
    obtain ⟨g, cap, rfl, _⟩ := hown.form hn
    exact ⟨g, cap, w, run_append_owned_none (P := P) (w := w) base t ty 5 i 1 ht hi _ n xs hown, by simpa [B8] using hown, grownBy_refl _ _⟩
  | some ad =>
    obtain ⟨v', w', hr, h2, h3, _, h5⟩ := run_append_own_at (P := P) w base t ty 5 i (.int .u8 0) 1 1 ht hi hz hsize hby rfl (by decide) v n xs hown ad l.length c (B8 l) (B8_length l) (bytes_cells hb) (B8_one l) (by unfold maxLen; omega) (by omega) hbase
    obtain ⟨g, cap, rfl, _⟩ := h2.form (by omega)
    exact ⟨g, cap, w', hr, h2, h3⟩
theorem wp_append_any {P : Program} (w : World) {o : Oper} {a : Act} {K : Act → World → Prop} {Q : Exit → Act → World → Prop} (s x : Operand) (t : TypeId)
    (ho : o.op = .call { callee := .builtin .append, args := #[s, x], argTypes := #[t, t] })
    (base : Nat) (i : TypeInfo) (ht : P.underlying t = some (.slice 5)) (hi : P.info? 5 = some i) (hz : i.zero = some (.int .u8 0)) (hsize : i.size = 1) (hby : i.bytes = 1)
    (v : Value) (n : Nat) (xs : List Value) (hs : a.eval s = v) (hown : w.ownsRow base 5 1 v n xs) (hn : 0 < n) (xa : Option Addr) (m c : Nat) (l : List Nat) (hx : a.eval x = .slice xa m c) (hl : l.length = m) (hb : Bytes w xa l) (hc : xa = none → c = 0)
    (h63 : n + m ≤ 140737488355328) (hbase : base ≤ w.heap.size)
    (h : ∀ g cap w', w'.ownsRow base 5 1 (.slice (some ⟨g, 0, none⟩) (n + m) cap) (n + m) (xs ++ B8 l) → w.grownBy w' v.ownBlock → K (a.put o.dst (.slice (some ⟨g, 0, none⟩) (n + m) cap)) w') : Oper.wp P o a w K Q := by
  obtain ⟨g, cap, w', hr, h2, h3⟩ := run_append_any (P := P) w t o.type base i ht hi hz hsize hby v n xs hown hn xa m c l hl hb hc h63 hbase
  unfold Oper.wp
  simp [execOp, ho, resolve, invoke, builtin, hs, hx, hr, Result.andThen]
  exact h g cap w' h2 h3
theorem wpList_append_any {P : Program} (w : World) {ops : Array Oper} {rest : List Oper} {o : Oper} {a : Act} {Q : Exit → Act → World → Prop} (hgd : o.guard = none) (s x : Operand) (t : TypeId)
    (ho : o.op = .call { callee := .builtin .append, args := #[s, x], argTypes := #[t, t] })
    (base : Nat) (i : TypeInfo) (ht : P.underlying t = some (.slice 5)) (hi : P.info? 5 = some i) (hz : i.zero = some (.int .u8 0)) (hsize : i.size = 1) (hby : i.bytes = 1)
    (v : Value) (n : Nat) (xs : List Value) (hs : a.eval s = v) (hown : w.ownsRow base 5 1 v n xs) (hn : 0 < n) (xa : Option Addr) (m c : Nat) (l : List Nat) (hx : a.eval x = .slice xa m c) (hl : l.length = m) (hb : Bytes w xa l) (hc : xa = none → c = 0)
    (h63 : n + m ≤ 140737488355328) (hbase : base ≤ w.heap.size)
    (h : ∀ g cap w', w'.ownsRow base 5 1 (.slice (some ⟨g, 0, none⟩) (n + m) cap) (n + m) (xs ++ B8 l) → w.grownBy w' v.ownBlock → wpList P ops Q rest (a.put o.dst (.slice (some ⟨g, 0, none⟩) (n + m) cap)) w') : wpList P ops Q (o :: rest) a w :=
  wpList_plain hgd fun K hK => wp_append_any w s x t ho base i ht hi hz hsize hby v n xs hs hown hn xa m c l hx hl hb hc h63 hbase (fun g cap w' h1 h2 => hK _ _ (h g cap w' h1 h2))
theorem step_append_any {P : Program} (w : World) {ops : Array Oper} {o : Oper} {a : Act} {K : Act → World → Prop} {Q : Exit → Act → World → Prop} {E : Prop} (hgd : o.guard = none) (s x : Operand) (t : TypeId)
    (ho : o.op = .call { callee := .builtin .append, args := #[s, x], argTypes := #[t, t] })
    (base : Nat) (i : TypeInfo) (ht : P.underlying t = some (.slice 5)) (hi : P.info? 5 = some i) (hz : i.zero = some (.int .u8 0)) (hsize : i.size = 1) (hby : i.bytes = 1)
    (v : Value) (n : Nat) (xs : List Value) (hs : a.eval s = v) (hown : w.ownsRow base 5 1 v n xs) (hn : 0 < n) (xa : Option Addr) (m c : Nat) (l : List Nat) (hx : a.eval x = .slice xa m c) (hl : l.length = m) (hb : Bytes w xa l) (hc : xa = none → c = 0)
    (h63 : n + m ≤ 140737488355328) (hbase : base ≤ w.heap.size)
    (h : ∀ g cap w', w'.ownsRow base 5 1 (.slice (some ⟨g, 0, none⟩) (n + m) cap) (n + m) (xs ++ B8 l) → w.grownBy w' v.ownBlock → K (a.put o.dst (.slice (some ⟨g, 0, none⟩) (n + m) cap)) w') :
    if Region.wanted o (yielded ops a.tmps) = true then Oper.wp P o a w K Q else E := by
  have hw : Region.wanted o (yielded ops a.tmps) = true := by simp [Region.wanted, hgd]
  rw [if_pos hw]
  exact wp_append_any w s x t ho base i ht hi hz hsize hby v n xs hs hown hn xa m c l hx hl hb hc h63 hbase h
end Go.Proofs.YtaegmeilhdbnnabDoor
namespace Go.Proofs.YtaegmeilhdbnnabDoor
open Go.ChangeShapes Go.WideShapes Go.ChangeAt Go.RowKit
set_option linter.unusedVariables false
theorem FrmAt.drew {w : World} {k : Nat} {kind seq : Int} {bv : Value} (h : FrmAt w k kind seq bv) : FrmAt w.drew k kind seq bv := h
theorem FrmAt.grown {w w' : World} {base n k : Nat} {v : Value} {xs : List Value} {kind seq : Int} {bv : Value} (h : FrmAt w k kind seq bv) (ho : w.ownsRow base 5 1 v n xs) (hg : w.grownBy w' v.ownBlock) : FrmAt w' k kind seq bv := h.nb (NB.of_grown ho hg)
theorem own_mono {w : World} {base base2 : Nat} {v : Value} {l : List Nat} (h : Own w base v l) (hb : base2 ≤ base) : Own w base2 v l := ⟨h.1, World.ownsRow.mono (base' := base2) h.2 hb⟩
theorem encE_ok {kind seq : Int} {n : Nat} (hE : encE kind seq n = 0) : ∃ k s : Nat, kind = k ∧ seq = s ∧ 1 ≤ k ∧ k ≤ 7 ∧ s ≤ 1099511627776 ∧ n ≤ 16384 := by
  have hx := hE
  unfold encE at hx
  have h1 : inB kind seq = true := by
    by_cases h : inB kind seq = false
    · rw [if_pos h] at hx; omega
    · simpa using h
  rw [if_neg (by rw [h1]; simp)] at hx
  have h2 : ¬ 16384 < n := fun h => by rw [if_pos h] at hx; omega
  obtain ⟨k1, k7, s0, s1⟩ := of_decide_eq_true h1
  obtain ⟨k, rfl⟩ := Int.eq_ofNat_of_zero_le (show 0 ≤ kind by omega)
  obtain ⟨s, rfl⟩ := Int.eq_ofNat_of_zero_le s0
  exact ⟨k, s, rfl, rfl, by omega, by omega, by omega, by omega⟩
end Go.Proofs.YtaegmeilhdbnnabDoor
