/- Own texts, joined: Steps. -/
import Derived.Test.YtofealmjggpacaaDoorJ02
import Derived.Test.YtofealmjggpacaaDoorJ03
namespace Go.Proofs.YtofealmjggpacaaDoor
open Go.ChangeShapes Go.WideShapes Go.ChangeAt Go.RowKit
/-- the table of taxes lies in memory -/
def Tax (w : World) : Prop := 0 < w.heap.size ∧ w.cell? ⟨0, 0, none⟩ = some (.int .i64 0) ∧ w.cell? ⟨0, 1, none⟩ = some (.int .i64 1900) ∧ w.cell? ⟨0, 2, none⟩ = some (.int .i64 2000) ∧ w.cell? ⟨0, 3, none⟩ = some (.int .i64 700)
theorem Tax.keep {w w' : World} (h : Tax w) (hb : Below w.heap.size w w') : Tax w' := by
  obtain ⟨h0, h1, h2, h3, h4⟩ := h
  exact ⟨Nat.lt_of_lt_of_le h0 hb.size, (hb.cell (p := ⟨0, 0, none⟩) h0).trans h1, (hb.cell (p := ⟨0, 1, none⟩) h0).trans h2, (hb.cell (p := ⟨0, 2, none⟩) h0).trans h3, (hb.cell (p := ⟨0, 3, none⟩) h0).trans h4⟩
def taxOf (c : Int) : Int := if c = 1 then 1900 else if c = 2 then 2000 else if c = 3 then 700 else 0
def oldB : ByteArray := ⟨#[111, 108, 100]⟩
set_option maxRecDepth 20000 in
set_option maxHeartbeats 1000000 in
theorem priced_any (k o i q p c t : Int) (wh : ByteArray) (s : Int) (n : ByteArray) (w : World) (h0 : 0 ≤ p) (h1 : p ≤ 1000000) :
    Calls Tryd.prog 35 #[.agg #[.int .i64 k, .int .i64 o, .int .i64 i, .int .i64 q, .int .i64 p, .int .i64 c, .int .i64 t, .string wh, .int .i64 s, .string n]] w fun e w' => e = .returned (.agg #[.int .i64 k, .int .i64 o, .int .i64 i, .int .i64 q, .int .i64 (p * 100), .int .i64 c, .int .i64 t, .string wh, .int .i64 s, .string n]) ∧ Below w.heap.size w w' := by
  go_enter Tryd.func35, Tryd.ntmps35
  go_wp2
  exact bodyPost_ret (v := .agg #[.int .i64 k, .int .i64 o, .int .i64 i, .int .i64 q, .int .i64 (p * 100), .int .i64 c, .int .i64 t, .string wh, .int .i64 s, .string n]) (by simp [results, Tryd.results35, go_sem]) rfl ⟨rfl, ((Below.refl _ _).alloc (Nat.le_refl _) _).alloc (by simp) _⟩
set_option maxRecDepth 20000 in
set_option maxHeartbeats 1000000 in
theorem named_any (k o i q p c t : Int) (wh : ByteArray) (s : Int) (n : ByteArray) (w : World) :
    Calls Tryd.prog 37 #[.agg #[.int .i64 k, .int .i64 o, .int .i64 i, .int .i64 q, .int .i64 p, .int .i64 c, .int .i64 t, .string wh, .int .i64 s, .string n]] w fun e w' => e = .returned (.agg #[.int .i64 k, .int .i64 o, .int .i64 i, .int .i64 q, .int .i64 p, .int .i64 c, .int .i64 t, .string oldB, .int .i64 s, .string n]) ∧ Below w.heap.size w w' := by
  unfold oldB
  go_enter Tryd.func37, Tryd.ntmps37
  go_wp2
  exact bodyPost_ret (v := .agg #[.int .i64 k, .int .i64 o, .int .i64 i, .int .i64 q, .int .i64 p, .int .i64 c, .int .i64 t, .string ⟨#[111, 108, 100]⟩, .int .i64 s, .string n]) (by simp [results, Tryd.results37, go_sem]) rfl ⟨rfl, ((Below.refl _ _).alloc (Nat.le_refl _) _).alloc (by simp) _⟩
def clrB (k q : Int) : Bool := k == 4 && q == 0
set_option maxRecDepth 20000 in
set_option maxHeartbeats 1000000 in
theorem cleared_yes (k o i q p c t : Int) (wh : ByteArray) (s : Int) (n : ByteArray) (w : World) (h : clrB k q = true) :
    Calls Tryd.prog 38 #[.agg #[.int .i64 k, .int .i64 o, .int .i64 i, .int .i64 q, .int .i64 p, .int .i64 c, .int .i64 t, .string wh, .int .i64 s, .string n]] w fun e w' => e = .returned (.agg #[.int .i64 10, .int .i64 o, .int .i64 0, .int .i64 q, .int .i64 p, .int .i64 c, .int .i64 t, .string wh, .int .i64 s, .string n]) ∧ Below w.heap.size w w' := by
  obtain ⟨rfl, rfl⟩ : k = 4 ∧ q = 0 := by simpa [clrB] using h
  clear h
  go_enter Tryd.func38, Tryd.ntmps38
  go_wp2
  exact bodyPost_ret (v := .agg #[.int .i64 10, .int .i64 o, .int .i64 0, .int .i64 0, .int .i64 p, .int .i64 c, .int .i64 t, .string wh, .int .i64 s, .string n]) (by simp [results, Tryd.results38, go_sem]) rfl ⟨rfl, ((Below.refl _ _).alloc (Nat.le_refl _) _).alloc (by simp) _⟩
set_option maxRecDepth 20000 in
set_option maxHeartbeats 1000000 in
theorem cleared_no (k o i q p c t : Int) (wh : ByteArray) (s : Int) (n : ByteArray) (w : World) (h : clrB k q = false) :
    Calls Tryd.prog 38 #[.agg #[.int .i64 k, .int .i64 o, .int .i64 i, .int .i64 q, .int .i64 p, .int .i64 c, .int .i64 t, .string wh, .int .i64 s, .string n]] w fun e w' => e = .returned (.agg #[.int .i64 k, .int .i64 o, .int .i64 i, .int .i64 q, .int .i64 p, .int .i64 c, .int .i64 t, .string wh, .int .i64 s, .string n]) ∧ Below w.heap.size w w' := by
  by_cases hk : k = 4
  · have hq : (q == 0) = false := by simpa [clrB, hk] using h
    subst hk
    clear h
    go_enter Tryd.func38, Tryd.ntmps38
    go_wp2
    exact bodyPost_ret (v := .agg #[.int .i64 4, .int .i64 o, .int .i64 i, .int .i64 q, .int .i64 p, .int .i64 c, .int .i64 t, .string wh, .int .i64 s, .string n]) (by simp [results, Tryd.results38, go_sem]) rfl ⟨rfl, ((Below.refl _ _).alloc (Nat.le_refl _) _).alloc (by simp) _⟩
  · have hk2 : (k == 4) = false := by simpa using hk
    clear h hk
    go_enter Tryd.func38, Tryd.ntmps38
    go_wp2
    exact bodyPost_ret (v := .agg #[.int .i64 k, .int .i64 o, .int .i64 i, .int .i64 q, .int .i64 p, .int .i64 c, .int .i64 t, .string wh, .int .i64 s, .string n]) (by simp [results, Tryd.results38, go_sem]) rfl ⟨rfl, ((Below.refl _ _).alloc (Nat.le_refl _) _).alloc (by simp) _⟩
def drpB (k q : Int) : Bool := decide (q < 0) && k == 2
set_option maxRecDepth 20000 in
set_option maxHeartbeats 2000000 in
theorem taxed_drop (k o i q p c t : Int) (wh : ByteArray) (s : Int) (n : ByteArray) (w : World) (h : drpB k q = true) (hq0 : -10000 ≤ q) (hc0 : 0 ≤ c) (hc3 : c ≤ 3) (ht : Tax w) :
    Calls Tryd.prog 36 #[.agg #[.int .i64 k, .int .i64 o, .int .i64 i, .int .i64 q, .int .i64 p, .int .i64 c, .int .i64 t, .string wh, .int .i64 s, .string n]] w fun e w' => e = .returned (.agg #[.int .i64 6, .int .i64 o, .int .i64 i, .int .i64 (-q), .int .i64 p, .int .i64 c, .int .i64 (taxOf c), .string wh, .int .i64 s, .string n]) ∧ Below w.heap.size w w' := by
  obtain ⟨hq, rfl⟩ : q < 0 ∧ k = 2 := by simpa [drpB] using h
  clear h
  obtain ⟨ht0, ht1, ht2, ht3, ht4⟩ := ht
  have hc : c = 0 ∨ c = 1 ∨ c = 2 ∨ c = 3 := by omega
  clear hc0 hc3
  rcases hc with rfl | rfl | rfl | rfl
  · rw [show taxOf 0 = 0 from rfl]
    go_enter Tryd.func36, Tryd.ntmps36
    go_wp2
    exact bodyPost_ret (v := .agg #[.int .i64 6, .int .i64 o, .int .i64 i, .int .i64 (-q), .int .i64 p, .int .i64 0, .int .i64 0, .string wh, .int .i64 s, .string n]) (by simp [results, Tryd.results36, go_sem]) rfl ⟨rfl, ((Below.refl _ _).alloc (Nat.le_refl _) _).alloc (by simp) _⟩
  · rw [show taxOf 1 = 1900 from rfl]
    go_enter Tryd.func36, Tryd.ntmps36
    go_wp2
    exact bodyPost_ret (v := .agg #[.int .i64 6, .int .i64 o, .int .i64 i, .int .i64 (-q), .int .i64 p, .int .i64 1, .int .i64 1900, .string wh, .int .i64 s, .string n]) (by simp [results, Tryd.results36, go_sem]) rfl ⟨rfl, ((Below.refl _ _).alloc (Nat.le_refl _) _).alloc (by simp) _⟩
  · rw [show taxOf 2 = 2000 from rfl]
    go_enter Tryd.func36, Tryd.ntmps36
    go_wp2
    exact bodyPost_ret (v := .agg #[.int .i64 6, .int .i64 o, .int .i64 i, .int .i64 (-q), .int .i64 p, .int .i64 2, .int .i64 2000, .string wh, .int .i64 s, .string n]) (by simp [results, Tryd.results36, go_sem]) rfl ⟨rfl, ((Below.refl _ _).alloc (Nat.le_refl _) _).alloc (by simp) _⟩
  · rw [show taxOf 3 = 700 from rfl]
    go_enter Tryd.func36, Tryd.ntmps36
    go_wp2
    exact bodyPost_ret (v := .agg #[.int .i64 6, .int .i64 o, .int .i64 i, .int .i64 (-q), .int .i64 p, .int .i64 3, .int .i64 700, .string wh, .int .i64 s, .string n]) (by simp [results, Tryd.results36, go_sem]) rfl ⟨rfl, ((Below.refl _ _).alloc (Nat.le_refl _) _).alloc (by simp) _⟩
set_option maxRecDepth 20000 in
set_option maxHeartbeats 2000000 in
theorem taxed_neg (k o i q p c t : Int) (wh : ByteArray) (s : Int) (n : ByteArray) (w : World) (h : drpB k q = false) (hq : q < 0) (hc0 : 0 ≤ c) (hc3 : c ≤ 3) (ht : Tax w) :
    Calls Tryd.prog 36 #[.agg #[.int .i64 k, .int .i64 o, .int .i64 i, .int .i64 q, .int .i64 p, .int .i64 c, .int .i64 t, .string wh, .int .i64 s, .string n]] w fun e w' => e = .returned (.agg #[.int .i64 k, .int .i64 o, .int .i64 i, .int .i64 0, .int .i64 p, .int .i64 c, .int .i64 (taxOf c), .string wh, .int .i64 s, .string n]) ∧ Below w.heap.size w w' := by
  have hk : (k == 2) = false := by simpa [drpB, hq] using h
  clear h
  obtain ⟨ht0, ht1, ht2, ht3, ht4⟩ := ht
  have hc : c = 0 ∨ c = 1 ∨ c = 2 ∨ c = 3 := by omega
  clear hc0 hc3
  rcases hc with rfl | rfl | rfl | rfl
  · rw [show taxOf 0 = 0 from rfl]
    go_enter Tryd.func36, Tryd.ntmps36
    go_wp2
    exact bodyPost_ret (v := .agg #[.int .i64 k, .int .i64 o, .int .i64 i, .int .i64 0, .int .i64 p, .int .i64 0, .int .i64 0, .string wh, .int .i64 s, .string n]) (by simp [results, Tryd.results36, go_sem]) rfl ⟨rfl, ((Below.refl _ _).alloc (Nat.le_refl _) _).alloc (by simp) _⟩
  · rw [show taxOf 1 = 1900 from rfl]
    go_enter Tryd.func36, Tryd.ntmps36
    go_wp2
    exact bodyPost_ret (v := .agg #[.int .i64 k, .int .i64 o, .int .i64 i, .int .i64 0, .int .i64 p, .int .i64 1, .int .i64 1900, .string wh, .int .i64 s, .string n]) (by simp [results, Tryd.results36, go_sem]) rfl ⟨rfl, ((Below.refl _ _).alloc (Nat.le_refl _) _).alloc (by simp) _⟩
  · rw [show taxOf 2 = 2000 from rfl]
    go_enter Tryd.func36, Tryd.ntmps36
    go_wp2
    exact bodyPost_ret (v := .agg #[.int .i64 k, .int .i64 o, .int .i64 i, .int .i64 0, .int .i64 p, .int .i64 2, .int .i64 2000, .string wh, .int .i64 s, .string n]) (by simp [results, Tryd.results36, go_sem]) rfl ⟨rfl, ((Below.refl _ _).alloc (Nat.le_refl _) _).alloc (by simp) _⟩
  · rw [show taxOf 3 = 700 from rfl]
    go_enter Tryd.func36, Tryd.ntmps36
    go_wp2
    exact bodyPost_ret (v := .agg #[.int .i64 k, .int .i64 o, .int .i64 i, .int .i64 0, .int .i64 p, .int .i64 3, .int .i64 700, .string wh, .int .i64 s, .string n]) (by simp [results, Tryd.results36, go_sem]) rfl ⟨rfl, ((Below.refl _ _).alloc (Nat.le_refl _) _).alloc (by simp) _⟩
set_option maxRecDepth 20000 in
set_option maxHeartbeats 2000000 in
theorem taxed_pos (k o i q p c t : Int) (wh : ByteArray) (s : Int) (n : ByteArray) (w : World) (hq : 0 ≤ q) (hc0 : 0 ≤ c) (hc3 : c ≤ 3) (ht : Tax w) :
    Calls Tryd.prog 36 #[.agg #[.int .i64 k, .int .i64 o, .int .i64 i, .int .i64 q, .int .i64 p, .int .i64 c, .int .i64 t, .string wh, .int .i64 s, .string n]] w fun e w' => e = .returned (.agg #[.int .i64 k, .int .i64 o, .int .i64 i, .int .i64 q, .int .i64 p, .int .i64 c, .int .i64 (taxOf c), .string wh, .int .i64 s, .string n]) ∧ Below w.heap.size w w' := by
  have hq2 : decide (q < 0) = false := by simp; omega
  obtain ⟨ht0, ht1, ht2, ht3, ht4⟩ := ht
  have hc : c = 0 ∨ c = 1 ∨ c = 2 ∨ c = 3 := by omega
  clear hc0 hc3
  rcases hc with rfl | rfl | rfl | rfl
  · rw [show taxOf 0 = 0 from rfl]
    go_enter Tryd.func36, Tryd.ntmps36
    go_wp2
    exact bodyPost_ret (v := .agg #[.int .i64 k, .int .i64 o, .int .i64 i, .int .i64 q, .int .i64 p, .int .i64 0, .int .i64 0, .string wh, .int .i64 s, .string n]) (by simp [results, Tryd.results36, go_sem]) rfl ⟨rfl, ((Below.refl _ _).alloc (Nat.le_refl _) _).alloc (by simp) _⟩
  · rw [show taxOf 1 = 1900 from rfl]
    go_enter Tryd.func36, Tryd.ntmps36
    go_wp2
    exact bodyPost_ret (v := .agg #[.int .i64 k, .int .i64 o, .int .i64 i, .int .i64 q, .int .i64 p, .int .i64 1, .int .i64 1900, .string wh, .int .i64 s, .string n]) (by simp [results, Tryd.results36, go_sem]) rfl ⟨rfl, ((Below.refl _ _).alloc (Nat.le_refl _) _).alloc (by simp) _⟩
  · rw [show taxOf 2 = 2000 from rfl]
    go_enter Tryd.func36, Tryd.ntmps36
    go_wp2
    exact bodyPost_ret (v := .agg #[.int .i64 k, .int .i64 o, .int .i64 i, .int .i64 q, .int .i64 p, .int .i64 2, .int .i64 2000, .string wh, .int .i64 s, .string n]) (by simp [results, Tryd.results36, go_sem]) rfl ⟨rfl, ((Below.refl _ _).alloc (Nat.le_refl _) _).alloc (by simp) _⟩
  · rw [show taxOf 3 = 700 from rfl]
    go_enter Tryd.func36, Tryd.ntmps36
    go_wp2
    exact bodyPost_ret (v := .agg #[.int .i64 k, .int .i64 o, .int .i64 i, .int .i64 q, .int .i64 p, .int .i64 3, .int .i64 700, .string wh, .int .i64 s, .string n]) (by simp [results, Tryd.results36, go_sem]) rfl ⟨rfl, ((Below.refl _ _).alloc (Nat.le_refl _) _).alloc (by simp) _⟩
end Go.Proofs.YtofealmjggpacaaDoor
