/- Own texts, joined: Upc. -/
import Derived.Test.YtofealmjggpacaaDoorJ26
import Derived.Test.YtofealmjggpacaaDoorJ24
namespace Go.Proofs.YtofealmjggpacaaDoor
open Go.ChangeShapes Go.WideShapes Go.ChangeAt Go.RowKit
def priceE (e : Ev) : Ev := { e with price := e.price * 100 }
def taxE (e : Ev) : Ev := { e with kind := if drpB e.kind e.qty = true then 6 else e.kind, qty := if drpB e.kind e.qty = true then -e.qty else if e.qty < 0 then 0 else e.qty, tax := taxOf e.cur }
def nameE (e : Ev) : Ev := { e with who := oldB }
def clearE (e : Ev) : Ev := { e with kind := if clrB e.kind e.qty = true then 10 else e.kind, item := if clrB e.kind e.qty = true then 0 else e.item }
def upE (v : Int) (e : Ev) : Ev := if v = 1 then priceE e else if v = 2 then taxE e else if v = 3 then nameE e else if v = 4 then clearE e else e
theorem priced_ev (e : Ev) (w : World) (h : Right 1 e) : Calls Tryd.prog 35 #[.agg (evA e)] w fun x w' => x = .returned (.agg (evA (priceE e))) ∧ Below w.heap.size w w' :=
  priced_any e.kind e.order e.item e.qty e.price e.cur e.tax e.who e.stamp e.note w h.price0 (by have := h.price1; unfold hiP at this; rw [if_pos (by omega)] at this; exact this)
theorem named_ev (e : Ev) (w : World) : Calls Tryd.prog 37 #[.agg (evA e)] w fun x w' => x = .returned (.agg (evA (nameE e))) ∧ Below w.heap.size w w' :=
  named_any e.kind e.order e.item e.qty e.price e.cur e.tax e.who e.stamp e.note w
theorem cleared_ev (e : Ev) (w : World) : Calls Tryd.prog 38 #[.agg (evA e)] w fun x w' => x = .returned (.agg (evA (clearE e))) ∧ Below w.heap.size w w' := by
  cases h : clrB e.kind e.qty with
  | true =>
    have := cleared_yes e.kind e.order e.item e.qty e.price e.cur e.tax e.who e.stamp e.note w h
    rw [show clearE e = { e with kind := 10, item := 0 } from by simp [clearE, h]]
    exact this
  | false =>
    have := cleared_no e.kind e.order e.item e.qty e.price e.cur e.tax e.who e.stamp e.note w h
    rw [show clearE e = e from by simp [clearE, h]]
    exact this
theorem taxed_ev (e : Ev) (w : World) (h : Right 2 e) (ht : Tax w) : Calls Tryd.prog 36 #[.agg (evA e)] w fun x w' => x = .returned (.agg (evA (taxE e))) ∧ Below w.heap.size w w' := by
  have hq0 : -10000 ≤ e.qty := by have := h.qty0; unfold loQ at this; rw [if_pos (by omega)] at this; exact this
  cases hd : drpB e.kind e.qty with
  | true =>
    have := taxed_drop e.kind e.order e.item e.qty e.price e.cur e.tax e.who e.stamp e.note w hd hq0 h.cur0 h.cur1 ht
    rw [show taxE e = { e with kind := 6, qty := -e.qty, tax := taxOf e.cur } from by simp [taxE, hd]]
    exact this
  | false =>
    by_cases hq : e.qty < 0
    · have := taxed_neg e.kind e.order e.item e.qty e.price e.cur e.tax e.who e.stamp e.note w hd hq h.cur0 h.cur1 ht
      rw [show taxE e = { e with qty := 0, tax := taxOf e.cur } from by simp [taxE, hd, hq]]
      exact this
    · have := taxed_pos e.kind e.order e.item e.qty e.price e.cur e.tax e.who e.stamp e.note w (by omega) h.cur0 h.cur1 ht
      rw [show taxE e = { e with tax := taxOf e.cur } from by simp [taxE, hd, hq]]
      exact this
theorem right1 {e : Ev} (r : Right 1 e) : Right 2 (priceE e) := by
  obtain ⟨h1, h2, h3, h4, h5, h6, h7, h8, h9, h10, h11, h12, h13, h14, h15, h16, h17, h18, h19, h20, h21, h22, h23, h24, h25⟩ := r
  have hp : e.price ≤ 1000000 := h14
  refine ⟨by omega, by omega, h3, h4, h5, h6, h7, h8, h9, h10, h11, h12, ?_, ?_, h15, h16, h17, h18, h19, h20, h21, .inl (by omega), .inr ?_, .inr ?_, .inr ?_⟩
  · show 0 ≤ e.price * 100; omega
  · show e.price * 100 ≤ 100000000; omega
  · exact h23.resolve_left (by omega)
  · exact h24.resolve_left (by omega)
  · exact h25.resolve_left (by omega)
theorem taxOf_bd (c : Int) : 0 ≤ taxOf c ∧ taxOf c ≤ 5000 := by unfold taxOf; split <;> (try split) <;> (try split) <;> omega
theorem right2 {e : Ev} (r : Right 2 e) : Right 3 (taxE e) := by
  obtain ⟨h1, h2, h3, h4, h5, h6, h7, h8, h9, h10, h11, h12, h13, h14, h15, h16, h17, h18, h19, h20, h21, h22, h23, h24, h25⟩ := r
  have hk : e.kind ≤ 5 := h4
  have hq : -10000 ≤ e.qty := h11
  have ht := taxOf_bd e.cur
  have hd : drpB e.kind e.qty = true → e.qty < 0 := fun h => by simp [drpB] at h; exact h.1
  refine ⟨by omega, by omega, ?_, ?_, h5, h6, h7, h8, h9, h10, ?_, ?_, h13, h14, h15, h16, ht.1, ht.2, h19, h20, h21, .inl (by omega), .inl (by omega), .inr ?_, .inr ?_⟩
  · show 1 ≤ if drpB e.kind e.qty = true then 6 else e.kind; split <;> omega
  · show (if drpB e.kind e.qty = true then 6 else e.kind) ≤ 7; split <;> omega
  · show 0 ≤ if drpB e.kind e.qty = true then -e.qty else if e.qty < 0 then 0 else e.qty
    split
    · have := hd ‹_›; omega
    · split <;> omega
  · show (if drpB e.kind e.qty = true then -e.qty else if e.qty < 0 then 0 else e.qty) ≤ 10000
    split
    · omega
    · split <;> omega
  · exact h24.resolve_left (by omega)
  · exact h25.resolve_left (by omega)
theorem right3 {e : Ev} (r : Right 3 e) : Right 4 (nameE e) := by
  obtain ⟨h1, h2, h3, h4, h5, h6, h7, h8, h9, h10, h11, h12, h13, h14, h15, h16, h17, h18, h19, h20, h21, h22, h23, h24, h25⟩ := r
  have hk : e.kind ≤ 7 := h4
  refine ⟨by omega, by omega, h3, ?_, by show oldB.size ≤ 16; decide, h6, h7, h8, h9, h10, h11, h12, h13, h14, h15, h16, h17, h18, by show plainB oldB.data.toList = true; decide, h20, h21, .inl (by omega), .inl (by omega), .inl (by omega), .inr ?_⟩
  · show e.kind ≤ 9; omega
  · exact h25.resolve_left (by omega)
theorem right4 {e : Ev} (r : Right 4 e) : Right 5 (clearE e) := by
  obtain ⟨h1, h2, h3, h4, h5, h6, h7, h8, h9, h10, h11, h12, h13, h14, h15, h16, h17, h18, h19, h20, h21, h22, h23, h24, h25⟩ := r
  have hk : e.kind ≤ 9 := h4
  refine ⟨by omega, by omega, ?_, ?_, h5, h6, h7, h8, ?_, ?_, h11, h12, h13, h14, h15, h16, h17, h18, h19, h20, h21, .inl (by omega), .inl (by omega), .inl (by omega), .inl (by omega)⟩
  · show 1 ≤ if clrB e.kind e.qty = true then 10 else e.kind; split <;> omega
  · show (if clrB e.kind e.qty = true then 10 else e.kind) ≤ 10; split <;> omega
  · show 0 ≤ if clrB e.kind e.qty = true then 0 else e.item; split <;> omega
  · show (if clrB e.kind e.qty = true then 0 else e.item) ≤ 65535; split <;> omega
/-- brought up from a version to the fifth -/
def chainE (v : Int) (e : Ev) : Ev := if v = 1 then clearE (nameE (taxE (priceE e))) else if v = 2 then clearE (nameE (taxE e)) else if v = 3 then clearE (nameE e) else if v = 4 then clearE e else e
theorem frame2 (w : World) (e : Ev) : EvAt ((w.alloc (.cells (evA e) 25)).alloc (.cells (evA zeroE) 25)) w.heap.size e ∧ EvAt ((w.alloc (.cells (evA e) 25)).alloc (.cells (evA zeroE) 25)) (w.heap.size + 1) zeroE
    ∧ Below w.heap.size w ((w.alloc (.cells (evA e) 25)).alloc (.cells (evA zeroE) 25)) := by
  refine ⟨?_, ?_, ((Below.refl _ _).alloc (Nat.le_refl _) _).alloc (by simp) _⟩ <;> (unfold EvAt; simp only [World.alloc, Array.getElem?_push, Array.size_push]; simp)
end Go.Proofs.YtofealmjggpacaaDoor
