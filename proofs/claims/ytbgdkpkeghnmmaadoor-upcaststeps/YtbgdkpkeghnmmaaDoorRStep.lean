/- What daybookref07.Step answers. -/
import Derived.Test.YtbgdkpkeghnmmaaDoorEvs
namespace Go.Proofs.YtbgdkpkeghnmmaaDoor
open Go.ChangeShapes Go.WideShapes Go.ChangeAt Go.RowKit
set_option linter.unusedVariables false
set_option maxRecDepth 20000 in
set_option maxHeartbeats 2000000 in
theorem rs1 (k o i q p c t : Int) (wh : ByteArray) (s : Int) (n : ByteArray) (w : World) (h0 : 0 ≤ p) (h1 : p ≤ 1000000) :
    Calls Tryd.prog 14 #[.int .i64 1, .agg #[.int .i64 k, .int .i64 o, .int .i64 i, .int .i64 q, .int .i64 p, .int .i64 c, .int .i64 t, .string wh, .int .i64 s, .string n]] w fun e w' => e = .returned (.agg #[.int .i64 k, .int .i64 o, .int .i64 i, .int .i64 q, .int .i64 (100 * p), .int .i64 c, .int .i64 t, .string wh, .int .i64 s, .string n]) ∧ Below w.heap.size w w' := by
  go_enter Tryd.func14, Tryd.ntmps14
  go_wp2
  exact bodyPost_ret (v := .agg #[.int .i64 k, .int .i64 o, .int .i64 i, .int .i64 q, .int .i64 (100 * p), .int .i64 c, .int .i64 t, .string wh, .int .i64 s, .string n]) (by simp [results, Tryd.results14, go_sem]) rfl ⟨rfl, (((Below.refl _ _).alloc (Nat.le_refl _) _).alloc (by simp) _).alloc (by simp; omega) _⟩
set_option maxRecDepth 20000 in
set_option maxHeartbeats 2000000 in
theorem rs3 (k o i q p c t : Int) (wh : ByteArray) (s : Int) (n : ByteArray) (w : World)  :
    Calls Tryd.prog 14 #[.int .i64 3, .agg #[.int .i64 k, .int .i64 o, .int .i64 i, .int .i64 q, .int .i64 p, .int .i64 c, .int .i64 t, .string wh, .int .i64 s, .string n]] w fun e w' => e = .returned (.agg #[.int .i64 k, .int .i64 o, .int .i64 i, .int .i64 q, .int .i64 p, .int .i64 c, .int .i64 t, .string ⟨#[111, 108, 100]⟩, .int .i64 s, .string n]) ∧ Below w.heap.size w w' := by
  go_enter Tryd.func14, Tryd.ntmps14
  go_wp2
  exact bodyPost_ret (v := .agg #[.int .i64 k, .int .i64 o, .int .i64 i, .int .i64 q, .int .i64 p, .int .i64 c, .int .i64 t, .string ⟨#[111, 108, 100]⟩, .int .i64 s, .string n]) (by simp [results, Tryd.results14, go_sem]) rfl ⟨rfl, (((Below.refl _ _).alloc (Nat.le_refl _) _).alloc (by simp) _).alloc (by simp; omega) _⟩
set_option maxRecDepth 20000 in
set_option maxHeartbeats 2000000 in
theorem rs4y (k o i q p c t : Int) (wh : ByteArray) (s : Int) (n : ByteArray) (w : World) (h : clrB k q = true) :
    Calls Tryd.prog 14 #[.int .i64 4, .agg #[.int .i64 k, .int .i64 o, .int .i64 i, .int .i64 q, .int .i64 p, .int .i64 c, .int .i64 t, .string wh, .int .i64 s, .string n]] w fun e w' => e = .returned (.agg #[.int .i64 10, .int .i64 o, .int .i64 0, .int .i64 q, .int .i64 p, .int .i64 c, .int .i64 t, .string wh, .int .i64 s, .string n]) ∧ Below w.heap.size w w' := by
  obtain ⟨rfl, rfl⟩ : k = 4 ∧ q = 0 := by simpa [clrB] using h
  clear h
  go_enter Tryd.func14, Tryd.ntmps14
  go_wp2
  exact bodyPost_ret (v := .agg #[.int .i64 10, .int .i64 o, .int .i64 0, .int .i64 0, .int .i64 p, .int .i64 c, .int .i64 t, .string wh, .int .i64 s, .string n]) (by simp [results, Tryd.results14, go_sem]) rfl ⟨rfl, (((Below.refl _ _).alloc (Nat.le_refl _) _).alloc (by simp) _).alloc (by simp; omega) _⟩
set_option maxRecDepth 20000 in
set_option maxHeartbeats 2000000 in
theorem rs4n (k o i q p c t : Int) (wh : ByteArray) (s : Int) (n : ByteArray) (w : World) (h : clrB k q = false) :
    Calls Tryd.prog 14 #[.int .i64 4, .agg #[.int .i64 k, .int .i64 o, .int .i64 i, .int .i64 q, .int .i64 p, .int .i64 c, .int .i64 t, .string wh, .int .i64 s, .string n]] w fun e w' => e = .returned (.agg #[.int .i64 k, .int .i64 o, .int .i64 i, .int .i64 q, .int .i64 p, .int .i64 c, .int .i64 t, .string wh, .int .i64 s, .string n]) ∧ Below w.heap.size w w' := by
  by_cases hk : k = 4
  · have hq : (q == 0) = false := by simpa [clrB, hk] using h
    subst hk
    clear h
    go_enter Tryd.func14, Tryd.ntmps14
    go_wp2
    exact bodyPost_ret (v := .agg #[.int .i64 4, .int .i64 o, .int .i64 i, .int .i64 q, .int .i64 p, .int .i64 c, .int .i64 t, .string wh, .int .i64 s, .string n]) (by simp [results, Tryd.results14, go_sem]) rfl ⟨rfl, (((Below.refl _ _).alloc (Nat.le_refl _) _).alloc (by simp) _).alloc (by simp; omega) _⟩
  · have hk2 : (k == 4) = false := by simpa using hk
    clear h hk
    go_enter Tryd.func14, Tryd.ntmps14
    go_wp2
    exact bodyPost_ret (v := .agg #[.int .i64 k, .int .i64 o, .int .i64 i, .int .i64 q, .int .i64 p, .int .i64 c, .int .i64 t, .string wh, .int .i64 s, .string n]) (by simp [results, Tryd.results14, go_sem]) rfl ⟨rfl, (((Below.refl _ _).alloc (Nat.le_refl _) _).alloc (by simp) _).alloc (by simp; omega) _⟩
set_option maxRecDepth 20000 in
set_option maxHeartbeats 2000000 in
theorem rs2d (k o i q p c t : Int) (wh : ByteArray) (s : Int) (n : ByteArray) (w : World) (h : drpB k q = true) (hq0 : -10000 ≤ q) (hc0 : 0 ≤ c) (hc3 : c ≤ 3) (htax : t = 0) :
    Calls Tryd.prog 14 #[.int .i64 2, .agg #[.int .i64 k, .int .i64 o, .int .i64 i, .int .i64 q, .int .i64 p, .int .i64 c, .int .i64 t, .string wh, .int .i64 s, .string n]] w fun e w' => e = .returned (.agg #[.int .i64 6, .int .i64 o, .int .i64 i, .int .i64 (-q), .int .i64 p, .int .i64 c, .int .i64 (taxOf c), .string wh, .int .i64 s, .string n]) ∧ Below w.heap.size w w' := by
  obtain ⟨hq, rfl⟩ : q < 0 ∧ k = 2 := by simpa [drpB] using h
  clear h
  have hc : c = 0 ∨ c = 1 ∨ c = 2 ∨ c = 3 := by omega
  clear hc0 hc3
  subst htax
  rcases hc with rfl | rfl | rfl | rfl
  · rw [show taxOf 0 = 0 from rfl]
    go_enter Tryd.func14, Tryd.ntmps14
    go_wp2
    exact bodyPost_ret (v := .agg #[.int .i64 6, .int .i64 o, .int .i64 i, .int .i64 (-q), .int .i64 p, .int .i64 0, .int .i64 0, .string wh, .int .i64 s, .string n]) (by simp [results, Tryd.results14, go_sem]) rfl ⟨rfl, (((Below.refl _ _).alloc (Nat.le_refl _) _).alloc (by simp) _).alloc (by simp; omega) _⟩
  · rw [show taxOf 1 = 1900 from rfl]
    go_enter Tryd.func14, Tryd.ntmps14
    go_wp2
    exact bodyPost_ret (v := .agg #[.int .i64 6, .int .i64 o, .int .i64 i, .int .i64 (-q), .int .i64 p, .int .i64 1, .int .i64 1900, .string wh, .int .i64 s, .string n]) (by simp [results, Tryd.results14, go_sem]) rfl ⟨rfl, (((Below.refl _ _).alloc (Nat.le_refl _) _).alloc (by simp) _).alloc (by simp; omega) _⟩
  · rw [show taxOf 2 = 2000 from rfl]
    go_enter Tryd.func14, Tryd.ntmps14
    go_wp2
    exact bodyPost_ret (v := .agg #[.int .i64 6, .int .i64 o, .int .i64 i, .int .i64 (-q), .int .i64 p, .int .i64 2, .int .i64 2000, .string wh, .int .i64 s, .string n]) (by simp [results, Tryd.results14, go_sem]) rfl ⟨rfl, (((Below.refl _ _).alloc (Nat.le_refl _) _).alloc (by simp) _).alloc (by simp; omega) _⟩
  · rw [show taxOf 3 = 700 from rfl]
    go_enter Tryd.func14, Tryd.ntmps14
    go_wp2
    exact bodyPost_ret (v := .agg #[.int .i64 6, .int .i64 o, .int .i64 i, .int .i64 (-q), .int .i64 p, .int .i64 3, .int .i64 700, .string wh, .int .i64 s, .string n]) (by simp [results, Tryd.results14, go_sem]) rfl ⟨rfl, (((Below.refl _ _).alloc (Nat.le_refl _) _).alloc (by simp) _).alloc (by simp; omega) _⟩
set_option maxRecDepth 20000 in
set_option maxHeartbeats 2000000 in
theorem rs2n (k o i q p c t : Int) (wh : ByteArray) (s : Int) (n : ByteArray) (w : World) (h : drpB k q = false) (hq : q < 0) (hc0 : 0 ≤ c) (hc3 : c ≤ 3) (htax : t = 0) :
    Calls Tryd.prog 14 #[.int .i64 2, .agg #[.int .i64 k, .int .i64 o, .int .i64 i, .int .i64 q, .int .i64 p, .int .i64 c, .int .i64 t, .string wh, .int .i64 s, .string n]] w fun e w' => e = .returned (.agg #[.int .i64 k, .int .i64 o, .int .i64 i, .int .i64 0, .int .i64 p, .int .i64 c, .int .i64 (taxOf c), .string wh, .int .i64 s, .string n]) ∧ Below w.heap.size w w' := by
  have hk : (k == 2) = false := by simpa [drpB, hq] using h
  clear h
  have hc : c = 0 ∨ c = 1 ∨ c = 2 ∨ c = 3 := by omega
  clear hc0 hc3
  subst htax
  rcases hc with rfl | rfl | rfl | rfl
  · rw [show taxOf 0 = 0 from rfl]
    go_enter Tryd.func14, Tryd.ntmps14
    go_wp2
    exact bodyPost_ret (v := .agg #[.int .i64 k, .int .i64 o, .int .i64 i, .int .i64 0, .int .i64 p, .int .i64 0, .int .i64 0, .string wh, .int .i64 s, .string n]) (by simp [results, Tryd.results14, go_sem]) rfl ⟨rfl, (((Below.refl _ _).alloc (Nat.le_refl _) _).alloc (by simp) _).alloc (by simp; omega) _⟩
  · rw [show taxOf 1 = 1900 from rfl]
    go_enter Tryd.func14, Tryd.ntmps14
    go_wp2
    exact bodyPost_ret (v := .agg #[.int .i64 k, .int .i64 o, .int .i64 i, .int .i64 0, .int .i64 p, .int .i64 1, .int .i64 1900, .string wh, .int .i64 s, .string n]) (by simp [results, Tryd.results14, go_sem]) rfl ⟨rfl, (((Below.refl _ _).alloc (Nat.le_refl _) _).alloc (by simp) _).alloc (by simp; omega) _⟩
  · rw [show taxOf 2 = 2000 from rfl]
    go_enter Tryd.func14, Tryd.ntmps14
    go_wp2
    exact bodyPost_ret (v := .agg #[.int .i64 k, .int .i64 o, .int .i64 i, .int .i64 0, .int .i64 p, .int .i64 2, .int .i64 2000, .string wh, .int .i64 s, .string n]) (by simp [results, Tryd.results14, go_sem]) rfl ⟨rfl, (((Below.refl _ _).alloc (Nat.le_refl _) _).alloc (by simp) _).alloc (by simp; omega) _⟩
  · rw [show taxOf 3 = 700 from rfl]
    go_enter Tryd.func14, Tryd.ntmps14
    go_wp2
    exact bodyPost_ret (v := .agg #[.int .i64 k, .int .i64 o, .int .i64 i, .int .i64 0, .int .i64 p, .int .i64 3, .int .i64 700, .string wh, .int .i64 s, .string n]) (by simp [results, Tryd.results14, go_sem]) rfl ⟨rfl, (((Below.refl _ _).alloc (Nat.le_refl _) _).alloc (by simp) _).alloc (by simp; omega) _⟩
set_option maxRecDepth 20000 in
set_option maxHeartbeats 2000000 in
theorem rs2p (k o i q p c t : Int) (wh : ByteArray) (s : Int) (n : ByteArray) (w : World) (hq : 0 ≤ q) (hc0 : 0 ≤ c) (hc3 : c ≤ 3) (htax : t = 0) :
    Calls Tryd.prog 14 #[.int .i64 2, .agg #[.int .i64 k, .int .i64 o, .int .i64 i, .int .i64 q, .int .i64 p, .int .i64 c, .int .i64 t, .string wh, .int .i64 s, .string n]] w fun e w' => e = .returned (.agg #[.int .i64 k, .int .i64 o, .int .i64 i, .int .i64 q, .int .i64 p, .int .i64 c, .int .i64 (taxOf c), .string wh, .int .i64 s, .string n]) ∧ Below w.heap.size w w' := by
  have hq2 : decide (q < 0) = false := by simp; omega
  have hc : c = 0 ∨ c = 1 ∨ c = 2 ∨ c = 3 := by omega
  clear hc0 hc3
  subst htax
  rcases hc with rfl | rfl | rfl | rfl
  · rw [show taxOf 0 = 0 from rfl]
    go_enter Tryd.func14, Tryd.ntmps14
    go_wp2
    exact bodyPost_ret (v := .agg #[.int .i64 k, .int .i64 o, .int .i64 i, .int .i64 q, .int .i64 p, .int .i64 0, .int .i64 0, .string wh, .int .i64 s, .string n]) (by simp [results, Tryd.results14, go_sem]) rfl ⟨rfl, (((Below.refl _ _).alloc (Nat.le_refl _) _).alloc (by simp) _).alloc (by simp; omega) _⟩
  · rw [show taxOf 1 = 1900 from rfl]
    go_enter Tryd.func14, Tryd.ntmps14
    go_wp2
    exact bodyPost_ret (v := .agg #[.int .i64 k, .int .i64 o, .int .i64 i, .int .i64 q, .int .i64 p, .int .i64 1, .int .i64 1900, .string wh, .int .i64 s, .string n]) (by simp [results, Tryd.results14, go_sem]) rfl ⟨rfl, (((Below.refl _ _).alloc (Nat.le_refl _) _).alloc (by simp) _).alloc (by simp; omega) _⟩
  · rw [show taxOf 2 = 2000 from rfl]
    go_enter Tryd.func14, Tryd.ntmps14
    go_wp2
    exact bodyPost_ret (v := .agg #[.int .i64 k, .int .i64 o, .int .i64 i, .int .i64 q, .int .i64 p, .int .i64 2, .int .i64 2000, .string wh, .int .i64 s, .string n]) (by simp [results, Tryd.results14, go_sem]) rfl ⟨rfl, (((Below.refl _ _).alloc (Nat.le_refl _) _).alloc (by simp) _).alloc (by simp; omega) _⟩
  · rw [show taxOf 3 = 700 from rfl]
    go_enter Tryd.func14, Tryd.ntmps14
    go_wp2
    exact bodyPost_ret (v := .agg #[.int .i64 k, .int .i64 o, .int .i64 i, .int .i64 q, .int .i64 p, .int .i64 3, .int .i64 700, .string wh, .int .i64 s, .string n]) (by simp [results, Tryd.results14, go_sem]) rfl ⟨rfl, (((Below.refl _ _).alloc (Nat.le_refl _) _).alloc (by simp) _).alloc (by simp; omega) _⟩
theorem rstep_ev (v : Int) (e : Ev) (w : World) (r : Right v e) (h4 : v ≤ 4) : Calls Tryd.prog 14 #[.int .i64 v, .agg (evA e)] w fun x w' => x = .returned (.agg (evA (upE v e))) ∧ Below w.heap.size w w' := by
  have hv : v = 1 ∨ v = 2 ∨ v = 3 ∨ v = 4 := by have := r.v1; omega
  rcases hv with rfl | rfl | rfl | rfl
  · have hp : e.price ≤ 1000000 := r.price1
    have := rs1 e.kind e.order e.item e.qty e.price e.cur e.tax e.who e.stamp e.note w r.price0 hp
    rw [show upE 1 e = { e with price := 100 * e.price } from by show priceE e = _; unfold priceE; rw [Int.mul_comm]]
    exact this
  · have hq0 : -10000 ≤ e.qty := r.qty0
    have ht : e.tax = 0 := r.own2.resolve_left (by omega)
    show Calls _ _ _ _ fun x w' => x = .returned (.agg (evA (taxE e))) ∧ _
    cases hd : drpB e.kind e.qty with
    | true =>
      have := rs2d e.kind e.order e.item e.qty e.price e.cur e.tax e.who e.stamp e.note w hd hq0 r.cur0 r.cur1 ht
      rw [show taxE e = { e with kind := 6, qty := -e.qty, tax := taxOf e.cur } from by simp [taxE, hd]]
      exact this
    | false =>
      by_cases hq : e.qty < 0
      · have := rs2n e.kind e.order e.item e.qty e.price e.cur e.tax e.who e.stamp e.note w hd hq r.cur0 r.cur1 ht
        rw [show taxE e = { e with qty := 0, tax := taxOf e.cur } from by simp [taxE, hd, hq]]
        exact this
      · have := rs2p e.kind e.order e.item e.qty e.price e.cur e.tax e.who e.stamp e.note w (by omega) r.cur0 r.cur1 ht
        rw [show taxE e = { e with tax := taxOf e.cur } from by simp [taxE, hd, hq]]
        exact this
  · exact rs3 e.kind e.order e.item e.qty e.price e.cur e.tax e.who e.stamp e.note w
  · show Calls _ _ _ _ fun x w' => x = .returned (.agg (evA (clearE e))) ∧ _
    cases h : clrB e.kind e.qty with
    | true =>
      have := rs4y e.kind e.order e.item e.qty e.price e.cur e.tax e.who e.stamp e.note w h
      rw [show clearE e = { e with kind := 10, item := 0 } from by simp [clearE, h]]
      exact this
    | false =>
      have := rs4n e.kind e.order e.item e.qty e.price e.cur e.tax e.who e.stamp e.note w h
      rw [show clearE e = e from by simp [clearE, h]]
      exact this
end Go.Proofs.YtbgdkpkeghnmmaaDoor
