/- Own texts, joined: Evs, RStep, RChkE, RTo. -/
import Derived.Test.YtofealmjggpacaaDoorJ40
import Derived.Test.YtofealmjggpacaaDoorJ38
import Derived.Test.YtofealmjggpacaaDoorJ39
import Derived.Test.YtofealmjggpacaaDoorJ26
namespace Go.Proofs.YtofealmjggpacaaDoor
open Go.ChangeShapes Go.WideShapes Go.ChangeAt Go.RowKit
/-- events that lie in blocks; nothing older than the call has turned; the table of taxes -/
def Evs (w wr : World) (l : List (Nat × Ev)) : Prop := Below w.heap.size w wr ∧ Tax wr ∧ ∀ p ∈ l, EvAt wr p.1 p.2
theorem Evs.at {w wr : World} {l : List (Nat × Ev)} (h : Evs w wr l) (i : Nat) (b : Nat) (e : Ev) (hp : l[i]? = some (b, e)) : EvAt wr b e := h.2.2 _ (List.mem_of_getElem? hp)
theorem Evs.keep {w w1 w2 : World} {l : List (Nat × Ev)} (h : Evs w w1 l) (hb : Below w1.heap.size w1 w2) : Hid (Evs w w2 l) :=
  ⟨h.1.trans (hb.mono h.1.size), h.2.1.keep hb, fun p hp => (h.2.2 p hp).after hb⟩
theorem Evs.start (w : World) (e : Ev) (ht : Tax w) : Hid (Evs w (w.alloc (.cells (evA e) 25)) [(w.heap.size, e)]) :=
  ⟨bnew w _, ht.keep (bnew w _), fun p hp => by simp at hp; subst hp; exact evAt_new w e⟩
/-- a new block, and an event stored there -/
theorem Evs.more {w w1 w2 : World} {l : List (Nat × Ev)} {O : Obj} {e : Ev} (h : Evs w w1 l) (h1 : EvAt w2 w1.heap.size e) (h2 : ∀ B a, Below B a (w1.alloc O) → B ≤ w1.heap.size → Below B a w2) : Hid (Evs w w2 ((w1.heap.size, e) :: l)) := by
  have hb : Below w1.heap.size w1 w2 := h2 _ _ (bnew w1 O) (Nat.le_refl _)
  have hk := h.keep hb
  refine ⟨hk.out.1, hk.out.2.1, fun p hp => ?_⟩
  rcases List.mem_cons.1 hp with rfl | hp
  · exact h1
  · exact hk.out.2.2 p hp
end Go.Proofs.YtofealmjggpacaaDoor
namespace Go.Proofs.YtofealmjggpacaaDoor
open Go.ChangeShapes Go.WideShapes Go.ChangeAt Go.RowKit
set_option linter.unusedVariables false
set_option maxRecDepth 20000 in
set_option maxHeartbeats 2000000 in
theorem rs1 (k o i q p c t : Int) (wh : ByteArray) (s : Int) (n : ByteArray) (w : World) (h0 : 0 ≤ p) (h1 : p ≤ 1000000) :
    Calls Tryd.prog 42 #[.int .i64 1, .agg #[.int .i64 k, .int .i64 o, .int .i64 i, .int .i64 q, .int .i64 p, .int .i64 c, .int .i64 t, .string wh, .int .i64 s, .string n]] w fun e w' => e = .returned (.agg #[.int .i64 k, .int .i64 o, .int .i64 i, .int .i64 q, .int .i64 (100 * p), .int .i64 c, .int .i64 t, .string wh, .int .i64 s, .string n]) ∧ Below w.heap.size w w' := by
  go_enter Tryd.func42, Tryd.ntmps42
  go_wp2
  exact bodyPost_ret (v := .agg #[.int .i64 k, .int .i64 o, .int .i64 i, .int .i64 q, .int .i64 (100 * p), .int .i64 c, .int .i64 t, .string wh, .int .i64 s, .string n]) (by simp [results, Tryd.results42, go_sem]) rfl ⟨rfl, (((Below.refl _ _).alloc (Nat.le_refl _) _).alloc (by simp) _).alloc (by simp; omega) _⟩
set_option maxRecDepth 20000 in
set_option maxHeartbeats 2000000 in
theorem rs3 (k o i q p c t : Int) (wh : ByteArray) (s : Int) (n : ByteArray) (w : World)  :
    Calls Tryd.prog 42 #[.int .i64 3, .agg #[.int .i64 k, .int .i64 o, .int .i64 i, .int .i64 q, .int .i64 p, .int .i64 c, .int .i64 t, .string wh, .int .i64 s, .string n]] w fun e w' => e = .returned (.agg #[.int .i64 k, .int .i64 o, .int .i64 i, .int .i64 q, .int .i64 p, .int .i64 c, .int .i64 t, .string ⟨#[111, 108, 100]⟩, .int .i64 s, .string n]) ∧ Below w.heap.size w w' := by
  go_enter Tryd.func42, Tryd.ntmps42
  go_wp2
  exact bodyPost_ret (v := .agg #[.int .i64 k, .int .i64 o, .int .i64 i, .int .i64 q, .int .i64 p, .int .i64 c, .int .i64 t, .string ⟨#[111, 108, 100]⟩, .int .i64 s, .string n]) (by simp [results, Tryd.results42, go_sem]) rfl ⟨rfl, (((Below.refl _ _).alloc (Nat.le_refl _) _).alloc (by simp) _).alloc (by simp; omega) _⟩
set_option maxRecDepth 20000 in
set_option maxHeartbeats 2000000 in
theorem rs4y (k o i q p c t : Int) (wh : ByteArray) (s : Int) (n : ByteArray) (w : World) (h : clrB k q = true) :
    Calls Tryd.prog 42 #[.int .i64 4, .agg #[.int .i64 k, .int .i64 o, .int .i64 i, .int .i64 q, .int .i64 p, .int .i64 c, .int .i64 t, .string wh, .int .i64 s, .string n]] w fun e w' => e = .returned (.agg #[.int .i64 10, .int .i64 o, .int .i64 0, .int .i64 q, .int .i64 p, .int .i64 c, .int .i64 t, .string wh, .int .i64 s, .string n]) ∧ Below w.heap.size w w' := by
  obtain ⟨rfl, rfl⟩ : k = 4 ∧ q = 0 := by simpa [clrB] using h
  clear h
  go_enter Tryd.func42, Tryd.ntmps42
  go_wp2
  exact bodyPost_ret (v := .agg #[.int .i64 10, .int .i64 o, .int .i64 0, .int .i64 0, .int .i64 p, .int .i64 c, .int .i64 t, .string wh, .int .i64 s, .string n]) (by simp [results, Tryd.results42, go_sem]) rfl ⟨rfl, (((Below.refl _ _).alloc (Nat.le_refl _) _).alloc (by simp) _).alloc (by simp; omega) _⟩
set_option maxRecDepth 20000 in
set_option maxHeartbeats 2000000 in
theorem rs4n (k o i q p c t : Int) (wh : ByteArray) (s : Int) (n : ByteArray) (w : World) (h : clrB k q = false) :
    Calls Tryd.prog 42 #[.int .i64 4, .agg #[.int .i64 k, .int .i64 o, .int .i64 i, .int .i64 q, .int .i64 p, .int .i64 c, .int .i64 t, .string wh, .int .i64 s, .string n]] w fun e w' => e = .returned (.agg #[.int .i64 k, .int .i64 o, .int .i64 i, .int .i64 q, .int .i64 p, .int .i64 c, .int .i64 t, .string wh, .int .i64 s, .string n]) ∧ Below w.heap.size w w' := by
  by_cases hk : k = 4
  · have hq : (q == 0) = false := by simpa [clrB, hk] using h
    subst hk
    clear h
    go_enter Tryd.func42, Tryd.ntmps42
    go_wp2
    exact bodyPost_ret (v := .agg #[.int .i64 4, .int .i64 o, .int .i64 i, .int .i64 q, .int .i64 p, .int .i64 c, .int .i64 t, .string wh, .int .i64 s, .string n]) (by simp [results, Tryd.results42, go_sem]) rfl ⟨rfl, (((Below.refl _ _).alloc (Nat.le_refl _) _).alloc (by simp) _).alloc (by simp; omega) _⟩
  · have hk2 : (k == 4) = false := by simpa using hk
    clear h hk
    go_enter Tryd.func42, Tryd.ntmps42
    go_wp2
    exact bodyPost_ret (v := .agg #[.int .i64 k, .int .i64 o, .int .i64 i, .int .i64 q, .int .i64 p, .int .i64 c, .int .i64 t, .string wh, .int .i64 s, .string n]) (by simp [results, Tryd.results42, go_sem]) rfl ⟨rfl, (((Below.refl _ _).alloc (Nat.le_refl _) _).alloc (by simp) _).alloc (by simp; omega) _⟩
set_option maxRecDepth 20000 in
set_option maxHeartbeats 2000000 in
theorem rs2d (k o i q p c t : Int) (wh : ByteArray) (s : Int) (n : ByteArray) (w : World) (h : drpB k q = true) (hq0 : -10000 ≤ q) (hc0 : 0 ≤ c) (hc3 : c ≤ 3) (htax : t = 0) :
    Calls Tryd.prog 42 #[.int .i64 2, .agg #[.int .i64 k, .int .i64 o, .int .i64 i, .int .i64 q, .int .i64 p, .int .i64 c, .int .i64 t, .string wh, .int .i64 s, .string n]] w fun e w' => e = .returned (.agg #[.int .i64 6, .int .i64 o, .int .i64 i, .int .i64 (-q), .int .i64 p, .int .i64 c, .int .i64 (taxOf c), .string wh, .int .i64 s, .string n]) ∧ Below w.heap.size w w' := by
  obtain ⟨hq, rfl⟩ : q < 0 ∧ k = 2 := by simpa [drpB] using h
  clear h
  have hc : c = 0 ∨ c = 1 ∨ c = 2 ∨ c = 3 := by omega
  clear hc0 hc3
  subst htax
  rcases hc with rfl | rfl | rfl | rfl
  · rw [show taxOf 0 = 0 from rfl]
    go_enter Tryd.func42, Tryd.ntmps42
    go_wp2
    exact bodyPost_ret (v := .agg #[.int .i64 6, .int .i64 o, .int .i64 i, .int .i64 (-q), .int .i64 p, .int .i64 0, .int .i64 0, .string wh, .int .i64 s, .string n]) (by simp [results, Tryd.results42, go_sem]) rfl ⟨rfl, (((Below.refl _ _).alloc (Nat.le_refl _) _).alloc (by simp) _).alloc (by simp; omega) _⟩
  · rw [show taxOf 1 = 1900 from rfl]
    go_enter Tryd.func42, Tryd.ntmps42
    go_wp2
    exact bodyPost_ret (v := .agg #[.int .i64 6, .int .i64 o, .int .i64 i, .int .i64 (-q), .int .i64 p, .int .i64 1, .int .i64 1900, .string wh, .int .i64 s, .string n]) (by simp [results, Tryd.results42, go_sem]) rfl ⟨rfl, (((Below.refl _ _).alloc (Nat.le_refl _) _).alloc (by simp) _).alloc (by simp; omega) _⟩
  · rw [show taxOf 2 = 2000 from rfl]
    go_enter Tryd.func42, Tryd.ntmps42
    go_wp2
    exact bodyPost_ret (v := .agg #[.int .i64 6, .int .i64 o, .int .i64 i, .int .i64 (-q), .int .i64 p, .int .i64 2, .int .i64 2000, .string wh, .int .i64 s, .string n]) (by simp [results, Tryd.results42, go_sem]) rfl ⟨rfl, (((Below.refl _ _).alloc (Nat.le_refl _) _).alloc (by simp) _).alloc (by simp; omega) _⟩
  · rw [show taxOf 3 = 700 from rfl]
    go_enter Tryd.func42, Tryd.ntmps42
    go_wp2
    exact bodyPost_ret (v := .agg #[.int .i64 6, .int .i64 o, .int .i64 i, .int .i64 (-q), .int .i64 p, .int .i64 3, .int .i64 700, .string wh, .int .i64 s, .string n]) (by simp [results, Tryd.results42, go_sem]) rfl ⟨rfl, (((Below.refl _ _).alloc (Nat.le_refl _) _).alloc (by simp) _).alloc (by simp; omega) _⟩
set_option maxRecDepth 20000 in
set_option maxHeartbeats 2000000 in
theorem rs2n (k o i q p c t : Int) (wh : ByteArray) (s : Int) (n : ByteArray) (w : World) (h : drpB k q = false) (hq : q < 0) (hc0 : 0 ≤ c) (hc3 : c ≤ 3) (htax : t = 0) :
    Calls Tryd.prog 42 #[.int .i64 2, .agg #[.int .i64 k, .int .i64 o, .int .i64 i, .int .i64 q, .int .i64 p, .int .i64 c, .int .i64 t, .string wh, .int .i64 s, .string n]] w fun e w' => e = .returned (.agg #[.int .i64 k, .int .i64 o, .int .i64 i, .int .i64 0, .int .i64 p, .int .i64 c, .int .i64 (taxOf c), .string wh, .int .i64 s, .string n]) ∧ Below w.heap.size w w' := by
  have hk : (k == 2) = false := by simpa [drpB, hq] using h
  clear h
  have hc : c = 0 ∨ c = 1 ∨ c = 2 ∨ c = 3 := by omega
  clear hc0 hc3
  subst htax
  rcases hc with rfl | rfl | rfl | rfl
  · rw [show taxOf 0 = 0 from rfl]
    go_enter Tryd.func42, Tryd.ntmps42
    go_wp2
    exact bodyPost_ret (v := .agg #[.int .i64 k, .int .i64 o, .int .i64 i, .int .i64 0, .int .i64 p, .int .i64 0, .int .i64 0, .string wh, .int .i64 s, .string n]) (by simp [results, Tryd.results42, go_sem]) rfl ⟨rfl, (((Below.refl _ _).alloc (Nat.le_refl _) _).alloc (by simp) _).alloc (by simp; omega) _⟩
  · rw [show taxOf 1 = 1900 from rfl]
    go_enter Tryd.func42, Tryd.ntmps42
    go_wp2
    exact bodyPost_ret (v := .agg #[.int .i64 k, .int .i64 o, .int .i64 i, .int .i64 0, .int .i64 p, .int .i64 1, .int .i64 1900, .string wh, .int .i64 s, .string n]) (by simp [results, Tryd.results42, go_sem]) rfl ⟨rfl, (((Below.refl _ _).alloc (Nat.le_refl _) _).alloc (by simp) _).alloc (by simp; omega) _⟩
  · rw [show taxOf 2 = 2000 from rfl]
    go_enter Tryd.func42, Tryd.ntmps42
    go_wp2
    exact bodyPost_ret (v := .agg #[.int .i64 k, .int .i64 o, .int .i64 i, .int .i64 0, .int .i64 p, .int .i64 2, .int .i64 2000, .string wh, .int .i64 s, .string n]) (by simp [results, Tryd.results42, go_sem]) rfl ⟨rfl, (((Below.refl _ _).alloc (Nat.le_refl _) _).alloc (by simp) _).alloc (by simp; omega) _⟩
  · rw [show taxOf 3 = 700 from rfl]
    go_enter Tryd.func42, Tryd.ntmps42
    go_wp2
    exact bodyPost_ret (v := .agg #[.int .i64 k, .int .i64 o, .int .i64 i, .int .i64 0, .int .i64 p, .int .i64 3, .int .i64 700, .string wh, .int .i64 s, .string n]) (by simp [results, Tryd.results42, go_sem]) rfl ⟨rfl, (((Below.refl _ _).alloc (Nat.le_refl _) _).alloc (by simp) _).alloc (by simp; omega) _⟩
set_option maxRecDepth 20000 in
set_option maxHeartbeats 2000000 in
theorem rs2p (k o i q p c t : Int) (wh : ByteArray) (s : Int) (n : ByteArray) (w : World) (hq : 0 ≤ q) (hc0 : 0 ≤ c) (hc3 : c ≤ 3) (htax : t = 0) :
    Calls Tryd.prog 42 #[.int .i64 2, .agg #[.int .i64 k, .int .i64 o, .int .i64 i, .int .i64 q, .int .i64 p, .int .i64 c, .int .i64 t, .string wh, .int .i64 s, .string n]] w fun e w' => e = .returned (.agg #[.int .i64 k, .int .i64 o, .int .i64 i, .int .i64 q, .int .i64 p, .int .i64 c, .int .i64 (taxOf c), .string wh, .int .i64 s, .string n]) ∧ Below w.heap.size w w' := by
  have hq2 : decide (q < 0) = false := by simp; omega
  have hc : c = 0 ∨ c = 1 ∨ c = 2 ∨ c = 3 := by omega
  clear hc0 hc3
  subst htax
  rcases hc with rfl | rfl | rfl | rfl
  · rw [show taxOf 0 = 0 from rfl]
    go_enter Tryd.func42, Tryd.ntmps42
    go_wp2
    exact bodyPost_ret (v := .agg #[.int .i64 k, .int .i64 o, .int .i64 i, .int .i64 q, .int .i64 p, .int .i64 0, .int .i64 0, .string wh, .int .i64 s, .string n]) (by simp [results, Tryd.results42, go_sem]) rfl ⟨rfl, (((Below.refl _ _).alloc (Nat.le_refl _) _).alloc (by simp) _).alloc (by simp; omega) _⟩
  · rw [show taxOf 1 = 1900 from rfl]
    go_enter Tryd.func42, Tryd.ntmps42
    go_wp2
    exact bodyPost_ret (v := .agg #[.int .i64 k, .int .i64 o, .int .i64 i, .int .i64 q, .int .i64 p, .int .i64 1, .int .i64 1900, .string wh, .int .i64 s, .string n]) (by simp [results, Tryd.results42, go_sem]) rfl ⟨rfl, (((Below.refl _ _).alloc (Nat.le_refl _) _).alloc (by simp) _).alloc (by simp; omega) _⟩
  · rw [show taxOf 2 = 2000 from rfl]
    go_enter Tryd.func42, Tryd.ntmps42
    go_wp2
    exact bodyPost_ret (v := .agg #[.int .i64 k, .int .i64 o, .int .i64 i, .int .i64 q, .int .i64 p, .int .i64 2, .int .i64 2000, .string wh, .int .i64 s, .string n]) (by simp [results, Tryd.results42, go_sem]) rfl ⟨rfl, (((Below.refl _ _).alloc (Nat.le_refl _) _).alloc (by simp) _).alloc (by simp; omega) _⟩
  · rw [show taxOf 3 = 700 from rfl]
    go_enter Tryd.func42, Tryd.ntmps42
    go_wp2
    exact bodyPost_ret (v := .agg #[.int .i64 k, .int .i64 o, .int .i64 i, .int .i64 q, .int .i64 p, .int .i64 3, .int .i64 700, .string wh, .int .i64 s, .string n]) (by simp [results, Tryd.results42, go_sem]) rfl ⟨rfl, (((Below.refl _ _).alloc (Nat.le_refl _) _).alloc (by simp) _).alloc (by simp; omega) _⟩
theorem rstep_ev (v : Int) (e : Ev) (w : World) (r : Right v e) (h4 : v ≤ 4) : Calls Tryd.prog 42 #[.int .i64 v, .agg (evA e)] w fun x w' => x = .returned (.agg (evA (upE v e))) ∧ Below w.heap.size w w' := by
  have hv : v = 1 ∨ v = 2 ∨ v = 3 ∨ v = 4 := by have := r.v1; omega
  rcases hv with rfl | rfl | rfl | rfl
  · have hp : e.price ≤ 1000000 := r.price1
    have := rs1 e.kind e.order e.item e.qty e.price e.cur e.tax e.who e.stamp e.note w r.price0 hp
    rw [show upE 1 e = { e with price := 100 * e.price } from by show priceE e = _; unfold priceE; rw [Int.mul_comm]]
    exact this
  · have hq0 : -10000 ≤ e.qty := r.qty0
    have ht : e.tax = 0 := r.own2.resolve_left (by omega)
    show Calls _ _ _ _ fun x w' => x = .returned (.agg (evA (taxE e))) ∧ _
    cases hd : drpB e.kind e.qty with
    | true =>
      have := rs2d e.kind e.order e.item e.qty e.price e.cur e.tax e.who e.stamp e.note w hd hq0 r.cur0 r.cur1 ht
      rw [show taxE e = { e with kind := 6, qty := -e.qty, tax := taxOf e.cur } from by simp [taxE, hd]]
      exact this
    | false =>
      by_cases hq : e.qty < 0
      · have := rs2n e.kind e.order e.item e.qty e.price e.cur e.tax e.who e.stamp e.note w hd hq r.cur0 r.cur1 ht
        rw [show taxE e = { e with qty := 0, tax := taxOf e.cur } from by simp [taxE, hd, hq]]
        exact this
      · have := rs2p e.kind e.order e.item e.qty e.price e.cur e.tax e.who e.stamp e.note w (by omega) r.cur0 r.cur1 ht
        rw [show taxE e = { e with tax := taxOf e.cur } from by simp [taxE, hd, hq]]
        exact this
  · exact rs3 e.kind e.order e.item e.qty e.price e.cur e.tax e.who e.stamp e.note w
  · show Calls _ _ _ _ fun x w' => x = .returned (.agg (evA (clearE e))) ∧ _
    cases h : clrB e.kind e.qty with
    | true =>
      have := rs4y e.kind e.order e.item e.qty e.price e.cur e.tax e.who e.stamp e.note w h
      rw [show clearE e = { e with kind := 10, item := 0 } from by simp [clearE, h]]
      exact this
    | false =>
      have := rs4n e.kind e.order e.item e.qty e.price e.cur e.tax e.who e.stamp e.note w h
      rw [show clearE e = e from by simp [clearE, h]]
      exact this
end Go.Proofs.YtofealmjggpacaaDoor
namespace Go.Proofs.YtofealmjggpacaaDoor
open Go.ChangeShapes Go.WideShapes Go.ChangeAt Go.RowKit
set_option linter.unusedVariables false
set_option maxRecDepth 20000 in
theorem rcheck_no (v : Int) (e : Ev) (w : World) (h : v < 1 ∨ 5 < v) :
    Calls Tryd.prog 41 #[.int .i64 v, .agg (evA e)] w fun x w' => x = .returned (.int .i64 30) ∧ Below w.heap.size w w' := by
  by_cases h1 : v < 1
  · go_enter Tryd.func41, Tryd.ntmps41
    go_wp2
    go_ret
    exact ⟨rfl, (Below.refl _ _).alloc (Nat.le_refl _) _⟩
  · have h2 : 5 < v := by omega
    have d1 : decide (v < 1) = false := by simp; omega
    clear h
    go_enter Tryd.func41, Tryd.ntmps41
    go_wp2
    go_ret
    exact ⟨rfl, (Below.refl _ _).alloc (Nat.le_refl _) _⟩
theorem rcheck_ev (v : Int) (e : Ev) (w : World) :
    Calls Tryd.prog 41 #[.int .i64 v, .agg (evA e)] w fun x w' => x = .returned (.int .i64 (chk v e)) ∧ Below w.heap.size w w' := by
  by_cases h : v < 1 ∨ 5 < v
  · rw [show chk v e = 30 from if_pos h]
    exact rcheck_no v e w h
  · have hv : v = 1 ∨ v = 2 ∨ v = 3 ∨ v = 4 ∨ v = 5 := by omega
    rcases hv with rfl | rfl | rfl | rfl | rfl
    · exact rcheck1 e.kind e.order e.item e.qty e.price e.cur e.tax e.who e.stamp e.note w
    · exact rcheck2 e.kind e.order e.item e.qty e.price e.cur e.tax e.who e.stamp e.note w
    · exact rcheck3 e.kind e.order e.item e.qty e.price e.cur e.tax e.who e.stamp e.note w
    · exact rcheck4 e.kind e.order e.item e.qty e.price e.cur e.tax e.who e.stamp e.note w
    · exact rcheck5 e.kind e.order e.item e.qty e.price e.cur e.tax e.who e.stamp e.note w
end Go.Proofs.YtofealmjggpacaaDoor
namespace Go.Proofs.YtofealmjggpacaaDoor
open Go.ChangeShapes Go.WideShapes Go.ChangeAt Go.RowKit
set_option linter.unusedVariables false
set_option maxRecDepth 20000 in
set_option maxHeartbeats 2000000 in
theorem rto_lowf (f t : Int) (e : Ev) (w : World) (ht : Tax w) (h : f < 1) :
    Calls Tryd.prog 17 #[.int .i64 f, .int .i64 t, .agg (evA e)] w fun x w' => x = .returned (.tuple #[.agg (evA zeroE), .int .i64 30]) ∧ Below w.heap.size w w' := by
  have HT0 := ht.1
  have FR := Fr.start w e ht
  clear ht
  go_enter Tryd.func17, Tryd.ntmps17
  go_wp2_with (first
    | ((with_reducible refine guard_store 25 ?_); refine wpList_store_ev (e2 := zeroE) rfl _ _ rfl FR.out.2.1 rfl rfl ?_; intro w9 z1 z2 z3 z4; have FQ := FR.out.put2 (by omega) (by omega) HT0 z1 z2 z3 z4; clear FR z1 z2 z3 z4; have FR := FQ; clear FQ))
  exact bodyPost_ret (v := .tuple #[.agg (evA zeroE), .int .i64 30]) (results_ev Tryd.results17 _ _ _ _ _ rfl rfl FR.out.2.1) rfl ⟨rfl, FR.out.2.2.1⟩
set_option maxRecDepth 20000 in
set_option maxHeartbeats 2000000 in
theorem rto_hightf (f t : Int) (e : Ev) (w : World) (ht : Tax w) (h : 5 < f) :
    Calls Tryd.prog 17 #[.int .i64 f, .int .i64 t, .agg (evA e)] w fun x w' => x = .returned (.tuple #[.agg (evA zeroE), .int .i64 30]) ∧ Below w.heap.size w w' := by
  have HT0 := ht.1
  have FR := Fr.start w e ht
  clear ht
  have d1 : decide (f < 1) = false := by simp; omega
  go_enter Tryd.func17, Tryd.ntmps17
  go_wp2_with (first
    | ((with_reducible refine guard_store 25 ?_); refine wpList_store_ev (e2 := zeroE) rfl _ _ rfl FR.out.2.1 rfl rfl ?_; intro w9 z1 z2 z3 z4; have FQ := FR.out.put2 (by omega) (by omega) HT0 z1 z2 z3 z4; clear FR z1 z2 z3 z4; have FR := FQ; clear FQ))
  exact bodyPost_ret (v := .tuple #[.agg (evA zeroE), .int .i64 30]) (results_ev Tryd.results17 _ _ _ _ _ rfl rfl FR.out.2.1) rfl ⟨rfl, FR.out.2.2.1⟩
set_option maxRecDepth 20000 in
set_option maxHeartbeats 2000000 in
theorem rto_turned (f t : Int) (e : Ev) (w : World) (ht : Tax w) (h : 1 ≤ f) (h2 : f ≤ 5) (h3 : t < f) :
    Calls Tryd.prog 17 #[.int .i64 f, .int .i64 t, .agg (evA e)] w fun x w' => x = .returned (.tuple #[.agg (evA zeroE), .int .i64 30]) ∧ Below w.heap.size w w' := by
  have HT0 := ht.1
  have FR := Fr.start w e ht
  clear ht
  have d1 : decide (f < 1) = false := by simp; omega
  have d2 : decide (5 < f) = false := by simp; omega
  go_enter Tryd.func17, Tryd.ntmps17
  go_wp2_with (first
    | ((with_reducible refine guard_store 25 ?_); refine wpList_store_ev (e2 := zeroE) rfl _ _ rfl FR.out.2.1 rfl rfl ?_; intro w9 z1 z2 z3 z4; have FQ := FR.out.put2 (by omega) (by omega) HT0 z1 z2 z3 z4; clear FR z1 z2 z3 z4; have FR := FQ; clear FQ))
  exact bodyPost_ret (v := .tuple #[.agg (evA zeroE), .int .i64 30]) (results_ev Tryd.results17 _ _ _ _ _ rfl rfl FR.out.2.1) rfl ⟨rfl, FR.out.2.2.1⟩
set_option maxRecDepth 20000 in
set_option maxHeartbeats 2000000 in
theorem rto_hight (f t : Int) (e : Ev) (w : World) (ht : Tax w) (h : 1 ≤ f) (h2 : f ≤ 5) (h3 : f ≤ t) (h4 : 5 < t) :
    Calls Tryd.prog 17 #[.int .i64 f, .int .i64 t, .agg (evA e)] w fun x w' => x = .returned (.tuple #[.agg (evA zeroE), .int .i64 30]) ∧ Below w.heap.size w w' := by
  have HT0 := ht.1
  have FR := Fr.start w e ht
  clear ht
  have d1 : decide (f < 1) = false := by simp; omega
  have d2 : decide (5 < f) = false := by simp; omega
  have d3 : decide (t < f) = false := by simp; omega
  go_enter Tryd.func17, Tryd.ntmps17
  go_wp2_with (first
    | ((with_reducible refine guard_store 25 ?_); refine wpList_store_ev (e2 := zeroE) rfl _ _ rfl FR.out.2.1 rfl rfl ?_; intro w9 z1 z2 z3 z4; have FQ := FR.out.put2 (by omega) (by omega) HT0 z1 z2 z3 z4; clear FR z1 z2 z3 z4; have FR := FQ; clear FQ))
  exact bodyPost_ret (v := .tuple #[.agg (evA zeroE), .int .i64 30]) (results_ev Tryd.results17 _ _ _ _ _ rfl rfl FR.out.2.1) rfl ⟨rfl, FR.out.2.2.1⟩
set_option maxRecDepth 20000 in
set_option maxHeartbeats 2000000 in
theorem rto_bad (f t : Int) (e : Ev) (w : World) (ht : Tax w) (h1 : 1 ≤ f) (h2 : t ≤ 5) (h3 : f ≤ t) (hc : (chk f e != 0) = true) :
    Calls Tryd.prog 17 #[.int .i64 f, .int .i64 t, .agg (evA e)] w fun x w' => x = .returned (.tuple #[.agg (evA zeroE), .int .i64 (chk f e)]) ∧ Below w.heap.size w w' := by
  have HT0 := ht.1
  have FR := Fr.start w e ht
  clear ht
  obtain ⟨r, HC⟩ : ∃ r, Hid (chk f e = r) := ⟨_, rfl⟩
  rw [HC.out] at hc ⊢
  have d1 : decide (f < 1) = false := by simp; omega
  have d2 : decide (5 < f) = false := by simp; omega
  have d3 : decide (t < f) = false := by simp; omega
  have d4 : decide (5 < t) = false := by simp; omega
  go_enter Tryd.func17, Tryd.ntmps17
  go_wp2_with (first
    | ((with_reducible refine guard_load 25 ?_); refine wpList_load_ev rfl _ rfl FR.out.1 rfl ?_)
    | (go_at_call 41; refine (rcheck_ev f e _).mono ?_; rw [HC.out]; rintro _ w8 ⟨rfl, hb8⟩; have FQ := FR.out.keep hb8; clear FR hb8; have FR := FQ; clear FQ)
    | ((with_reducible refine guard_store 25 ?_); refine wpList_store_ev (e2 := zeroE) rfl _ _ rfl FR.out.2.1 rfl rfl ?_; intro w9 z1 z2 z3 z4; have FQ := FR.out.put2 (by omega) (by omega) HT0 z1 z2 z3 z4; clear FR z1 z2 z3 z4; have FR := FQ; clear FQ))
  exact bodyPost_ret (v := .tuple #[.agg (evA zeroE), .int .i64 r]) (results_ev Tryd.results17 _ _ _ _ _ rfl rfl FR.out.2.1) rfl ⟨rfl, FR.out.2.2.1⟩
set_option maxRecDepth 20000 in
set_option maxHeartbeats 4000000 in
theorem rto_good (f t : Int) (e : Ev) (w : World) (ht : Tax w) (h1 : 1 ≤ f) (h2 : t ≤ 5) (h3 : f ≤ t) (hc : chk f e = 0) :
    Calls Tryd.prog 17 #[.int .i64 f, .int .i64 t, .agg (evA e)] w fun x w' => x = .returned (.tuple #[.agg (evA (toE f t e)), .int .i64 0]) ∧ Below w.heap.size w w' := by
  have HT0 := ht.1
  have FR := Fr.start w e ht
  have HC : Hid (chk f e = 0) := hc
  have HRT : Hid (Right f e) := right_of hc
  clear ht hc
  have d1 : decide (f < 1) = false := by simp; omega
  have d2 : decide (5 < f) = false := by simp; omega
  have d3 : decide (t < f) = false := by simp; omega
  have d4 : decide (5 < t) = false := by simp; omega
  go_enter Tryd.func17, Tryd.ntmps17
  go_wp2_with (first
    | ((with_reducible refine guard_load 25 ?_); refine wpList_load_ev rfl _ rfl FR.out.1 rfl ?_)
    | (go_at_call 41; refine (rcheck_ev f e _).mono ?_; rw [HC.out]; rintro _ w8 ⟨rfl, hb8⟩; have FQ := FR.out.keep hb8; clear FR hb8; have FR := FQ; clear FQ))
  go_loopw [9] (fun i wr => ∃ v : Int, f ≤ v ∧ v ≤ t ∧ i = .int .i64 v ∧ Hid (Fr w wr w.heap.size (w.heap.size + 1) (toE f v e) zeroE)) (fun i _ => (t - intOf i).toNat)
  case atStart => exact ⟨f, by omega, by omega, rfl, by rw [to_same e f h1 (by omega)]; exact FR⟩
  case round =>
    clear FR
    obtain ⟨v, v1, v2, rfl, FR⟩ := hrel
    by_cases hlt : v < t
    · have R1 : Hid (Right v (toE f v e)) := right_to HRT.out v1 (by omega)
      have HE : Hid (upE v (toE f v e) = toE f (v + 1) e) := by
        show _ = _
        rw [← to_one (toE f v e) v (by omega) (by omega), to_two e f v (v + 1) h1 v1 (by omega) (by omega)]
      go_wp2_with (first
        | ((with_reducible refine guard_load 25 ?_); refine wpList_load_ev rfl _ rfl FR.out.1 rfl ?_)
        | (go_at_call 42; refine (rstep_ev v _ _ R1.out (by omega)).mono ?_; rintro _ w8 ⟨rfl, hb8⟩; have FQ := FR.out.keep hb8; clear FR hb8; have FR := FQ; clear FQ)
        | ((with_reducible refine guard_store 25 ?_); refine wpList_store_ev rfl _ _ rfl FR.out.1 rfl rfl ?_; intro w9 z1 z2 z3 z4; have FQ := FR.out.put1 (by omega) (by omega) HT0 z1 z2 z3 z4; clear FR z1 z2 z3 z4; have FR := FQ; clear FQ))
      go_roundw
      case rel => exact ⟨v + 1, by omega, by omega, by go_num, by rw [← HE.out]; exact FR⟩
      case measure => simp [intOf]; omega
    · have hvt : v = t := by omega
      subst hvt
      go_wp2_with (first
        | ((with_reducible refine guard_load 25 ?_); refine wpList_load_ev rfl _ rfl FR.out.1 rfl ?_)
        | ((with_reducible refine guard_store 25 ?_); refine wpList_store_ev rfl _ _ rfl FR.out.2.1 rfl rfl ?_; intro w9 z1 z2 z3 z4; have FQ := FR.out.put2 (by omega) (by omega) HT0 z1 z2 z3 z4; clear FR z1 z2 z3 z4; have FR := FQ; clear FQ))
      exact bodyPost_ret (v := .tuple #[.agg (evA (toE f v e)), .int .i64 0]) (results_ev Tryd.results17 _ _ _ _ _ rfl rfl FR.out.2.1) rfl ⟨rfl, FR.out.2.2.1⟩
theorem rto_any (f t : Int) (e : Ev) (w : World) (ht : Tax w) :
    Calls Tryd.prog 17 #[.int .i64 f, .int .i64 t, .agg (evA e)] w fun x w' => x = .returned (.tuple #[.agg (evA (toR f t e)), .int .i64 (toC f t e)]) ∧ Below w.heap.size w w' := by
  unfold toR toC
  by_cases hb : toBad f t
  · rw [if_pos hb, if_pos hb]
    unfold toBad at hb
    by_cases h1 : f < 1
    · exact rto_lowf f t e w ht h1
    · by_cases h2 : 5 < f
      · exact rto_hightf f t e w ht h2
      · by_cases h3 : t < f
        · exact rto_turned f t e w ht (by omega) (by omega) h3
        · exact rto_hight f t e w ht (by omega) (by omega) (by omega) (by omega)
  · rw [if_neg hb, if_neg hb]
    unfold toBad at hb
    by_cases hc : chk f e = 0
    · rw [if_pos hc, hc]
      exact rto_good f t e w ht (by omega) (by omega) (by omega) hc
    · rw [if_neg hc]
      exact rto_bad f t e w ht (by omega) (by omega) (by omega) (by simpa using hc)
/-- an event stored into a block that is there -/
theorem Evs.put {w w1 w2 : World} {l m : List (Nat × Ev)} {b : Nat} {e : Ev} (h : Evs w w1 l) (h0 : 0 < w.heap.size) (hw : w.heap.size ≤ b) (hm : ∀ p ∈ m, p ∈ l ∧ p.1 ≠ b) (h1 : EvAt w2 b e) (h2 : ∀ B a, Below B a w1 → B ≤ b → Below B a w2) (h3 : ∀ k, k ≠ b → w2.heap[k]? = w1.heap[k]?) (h4 : w2.heap.size = w1.heap.size) : Hid (Evs w w2 ((b, e) :: m)) := by
  refine ⟨h2 _ _ h.1 hw, tax_far h.2.1 (by omega) h3 h4, fun p hp => ?_⟩
  rcases List.mem_cons.1 hp with rfl | hp
  · exact h1
  · exact (h3 p.1 (hm p hp).2).trans (h.2.2 p (hm p hp).1)
end Go.Proofs.YtofealmjggpacaaDoor
