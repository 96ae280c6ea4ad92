/- Own texts, joined: RTab. -/
import Derived.Test.YtbpjlphjhjfdoaaGreatK10
import Derived.WalkSmall
namespace Go.Proofs.YtbpjlphjhjfdoaaGreat
open Go.ChangeShapes Go.WideShapes Go.ChangeAt Go.RowKit
def hasK (v : Int) : Nat := if v ≤ 1 then 5 else if v ≤ 2 then 6 else if v ≤ 3 then 7 else if v ≤ 4 then 8 else 10
def lowL (v : Int) : List Int := [0, 1, 1, 0, loQ v, 0, 0, 0, 0, 0, 0]
def highL (v : Int) : List Int := [0, 10, 1099511627776, 65535, 10000, hiP v, 3, 5000, 0, 1099511627776, 0]
def numL (e : Ev) : List Int := [0, e.kind, e.order, e.item, e.qty, e.price, e.cur, e.tax, 0, e.stamp, 0]
def okT (v : Int) (e : Ev) (j : Nat) : Prop := (hasK v < j → (numL e).getD j 0 = 0) ∧ (lowL v).getD j 0 ≤ (numL e).getD j 0 ∧ (numL e).getD j 0 ≤ (highL v).getD j 0
theorem ten {j : Nat} (h1 : 1 ≤ j) (h2 : j ≤ 10) : j = 1 ∨ j = 2 ∨ j = 3 ∨ j = 4 ∨ j = 5 ∨ j = 6 ∨ j = 7 ∨ j = 8 ∨ j = 9 ∨ j = 10 := by omega
theorem okT_of {v : Int} {e : Ev} (r : Right v e) (j : Nat) (h1 : 1 ≤ j) (h2 : j ≤ 10) : okT v e j := by
  obtain ⟨a1, a2, a3, a4, a5, a6, a7, a8, a9, a10, a11, a12, a13, a14, a15, a16, a17, a18, a19, a20, a21, a22, a23, a24, a25⟩ := r
  have hv : v = 1 ∨ v = 2 ∨ v = 3 ∨ v = 4 ∨ v = 5 := by omega
  have hk : lastK v ≤ 10 := by unfold lastK; split <;> (try split) <;> (try split) <;> omega
  unfold okT
  rcases hv with rfl | rfl | rfl | rfl | rfl <;> rcases ten h1 h2 with rfl | rfl | rfl | rfl | rfl | rfl | rfl | rfl | rfl | rfl <;> simp [hasK, lowL, highL, numL] <;> omega
theorem right_tags {v : Int} {e : Ev} (h1 : 1 ≤ v) (h5 : v ≤ 5) (k1 : 1 ≤ e.kind) (k2 : e.kind ≤ lastK v) (s1 : e.who.size ≤ 16) (s2 : e.note.size ≤ 120) (h : ∀ j, 1 ≤ j → j < 11 → okT v e j)
    (w : 3 < v ∨ nilB e.who = true) (m : 4 < v ∨ nilB e.note = true) (pl : plainB e.who.data.toList = true) : Right v e := by
  have t2 := h 2 (by omega) (by omega)
  have t3 := h 3 (by omega) (by omega)
  have t4 := h 4 (by omega) (by omega)
  have t5 := h 5 (by omega) (by omega)
  have t6 := h 6 (by omega) (by omega)
  have t7 := h 7 (by omega) (by omega)
  have t9 := h 9 (by omega) (by omega)
  simp [okT, lowL, highL, numL] at t2 t3 t4 t5 t6 t7 t9
  have hh : (v ≤ 1 → hasK v = 5) ∧ (v ≤ 2 → hasK v ≤ 6) ∧ (v ≤ 4 → hasK v ≤ 8) := by unfold hasK; refine ⟨fun h => ?_, fun h => ?_, fun h => ?_⟩ <;> (repeat (split <;> try omega)) <;> omega
  refine ⟨h1, h5, k1, k2, s1, s2, t2.2.1, t2.2.2, t3.2.1, t3.2.2, t4.2.1, t4.2.2, t5.2.1, t5.2.2, t6.2.1, t6.2.2, t7.2.1, t7.2.2, pl, t9.2.1, t9.2.2, ?_, ?_, w, ?_⟩
  · by_cases hv : 1 < v
    · exact .inl hv
    · exact .inr (t6.1 (by have := hh.1 (by omega); omega))
  · by_cases hv : 2 < v
    · exact .inl hv
    · exact .inr (t7.1 (by have := hh.2.1 (by omega); omega))
  · rcases m with m | m
    · exact .inl m
    · by_cases hv : 4 < v
      · exact .inl hv
      · exact .inr ⟨t9.1 (by have := hh.2.2 (by omega); omega), m⟩
theorem chk_31 {v : Int} {e : Ev} (h1 : 1 ≤ v) (h5 : v ≤ 5) (hk : e.kind < 1 ∨ lastK v < e.kind) : chk v e = 31 := by
  unfold chk
  rw [if_neg (by omega)]
  exact if_pos hk
theorem chk_24 {v : Int} {e : Ev} (h1 : 1 ≤ v) (h5 : v ≤ 5) (k1 : 1 ≤ e.kind) (k2 : e.kind ≤ lastK v) (hs : 16 < e.who.size ∨ 120 < e.note.size) : chk v e = 24 := by
  unfold chk
  rw [if_neg (by omega)]
  unfold chkV
  rw [if_neg (by omega), if_pos hs]
theorem chk_32 {v : Int} {e : Ev} (h1 : 1 ≤ v) (h5 : v ≤ 5) (k1 : 1 ≤ e.kind) (k2 : e.kind ≤ lastK v) (s1 : e.who.size ≤ 16) (s2 : e.note.size ≤ 120) (hn : ¬ Right v e) : chk v e = 32 := by
  have h0 : chk v e ≠ 0 := fun h => hn (right_of h)
  unfold chk at h0 ⊢
  rw [if_neg (by omega)] at h0 ⊢
  unfold chkV at h0 ⊢
  rw [if_neg (by omega), if_neg (by omega)] at h0 ⊢
  split at h0
  · exact absurd rfl h0
  · rename_i hb
    rw [if_neg hb]
def RowI (w : World) (b : Nat) (l : List Int) : Prop := b < w.heap.size ∧ ∀ j, j < l.length → w.cell? ⟨b, j, none⟩ = some (.int .i64 (l.getD j 0))
theorem RowI.keep {w w2 : World} {b : Nat} {l : List Int} (h : RowI w b l) (hb : Below w.heap.size w w2) : RowI w2 b l := ⟨Nat.lt_of_lt_of_le h.1 hb.size, fun j hj => (hb.cell (p := ⟨b, j, none⟩) h.1).trans (h.2 j hj)⟩
def IV (l : List Int) : Array Value := (l.map fun (x : Int) => Value.int .i64 x).toArray
theorem row_of {w : World} {b : Nat} {l : List Int} (h : w.heap[b]? = some (.cells (IV l) 3)) : RowI w b l := by
  refine ⟨?_, fun j hj => ?_⟩
  · by_cases hh : b < w.heap.size
    · exact hh
    · rw [Array.getElem?_eq_none (by omega)] at h; cases h
  · rw [cell_of_row w b j _ _ _ h]
    simp [IV, hj]
theorem two_new {w w2 : World} {A B : Array Value} {T U : TypeId} (hb : Below ((w.alloc (.cells A T)).alloc (.cells B U)).heap.size ((w.alloc (.cells A T)).alloc (.cells B U)) w2) : Below w.heap.size w w2 ∧ w2.heap[w.heap.size]? = some (.cells A T) ∧ w2.heap[w.heap.size + 1]? = some (.cells B U) := by
  refine ⟨(((Below.refl _ _).alloc (Nat.le_refl _) _).alloc (by simp) _).trans (hb.mono (by simp; omega)), ?_, ?_⟩
  · rw [hb.block w.heap.size (by simp; omega)]
    simp only [World.alloc, Array.getElem?_push, Array.size_push]; simp
  · rw [hb.block (w.heap.size + 1) (by simp)]
    simp only [World.alloc, Array.getElem?_push, Array.size_push]; simp
set_option maxRecDepth 20000 in
theorem rlast_any (v : Int) (w : World) (h1 : 1 ≤ v) (h5 : v ≤ 5) :
    Calls Tryz.prog 67 #[.int .i64 v] w fun x w' => x = .returned (.int .i64 (lastK v)) ∧ Below w.heap.size w w' := by
  have hv : v = 1 ∨ v = 2 ∨ v = 3 ∨ v = 4 ∨ v = 5 := by omega
  clear h1 h5
  rcases hv with rfl | rfl | rfl | rfl | rfl
  all_goals
    go_enter Tryz.func67, Tryz.ntmps67
    go_wp2
    go_ret
    exact ⟨rfl, (Below.refl _ _).alloc (Nat.le_refl _) _⟩
set_option maxRecDepth 20000 in
theorem rhas_any (v : Int) (w : World) (h1 : 1 ≤ v) (h5 : v ≤ 5) :
    Calls Tryz.prog 69 #[.int .i64 v] w fun x w' => x = .returned (.int .i64 (hasK v : Nat)) ∧ Below w.heap.size w w' := by
  have hv : v = 1 ∨ v = 2 ∨ v = 3 ∨ v = 4 ∨ v = 5 := by omega
  clear h1 h5
  rcases hv with rfl | rfl | rfl | rfl | rfl
  all_goals
    go_enter Tryz.func69, Tryz.ntmps69
    go_wp2
    go_ret
    exact ⟨rfl, (Below.refl _ _).alloc (Nat.le_refl _) _⟩
set_option maxRecDepth 20000 in
set_option maxHeartbeats 1000000 in
theorem rnums_any (k o i q p c t : Int) (wh : ByteArray) (s : Int) (n : ByteArray) (w : World) :
    Calls Tryz.prog 68 #[.agg #[.int .i64 k, .int .i64 o, .int .i64 i, .int .i64 q, .int .i64 p, .int .i64 c, .int .i64 t, .string wh, .int .i64 s, .string n]] w fun x w' => x = .returned (.slice (some ⟨w.heap.size + 1, 0, none⟩) 11 11) ∧ RowI w' (w.heap.size + 1) (numL ⟨k, o, i, q, p, c, t, wh, s, n⟩) ∧ Below w.heap.size w w' := by
  go_enter Tryz.func68, Tryz.ntmps68
  go_wp2
  go_ret
  refine ⟨rfl, row_of ?_, ((Below.refl _ _).alloc (Nat.le_refl _) _).alloc (by simp) _⟩
  simp only [World.alloc, Array.getElem?_push, Array.size_push]
  simp [IV, numL]
def RC (E : World → Prop) (b : Nat) (v : Int) (e : Ev) (w : World) : Prop := E w ∧ RowI w b (lowL v) ∧ RowI w (b + 1) (highL v) ∧ RowI w (b + 1 + 1 + 1) (numL e)
theorem RC.keep {E : World → Prop} {b : Nat} {v : Int} {e : Ev} {w w2 : World} (h : RC E b v e w) (hn : ∀ w1 w2, E w1 → Below w1.heap.size w1 w2 → E w2) (hb : Below w.heap.size w w2) : Hid (RC E b v e w2) := ⟨hn _ _ h.1 hb, h.2.1.keep hb, h.2.2.1.keep hb, h.2.2.2.keep hb⟩
theorem RC.cells {E : World → Prop} {b : Nat} {v : Int} {e : Ev} {w : World} (h : RC E b v e w) (j : Nat) (hj : j < 11) : w.cell? ⟨b, j, none⟩ = some (.int .i64 ((lowL v).getD j 0)) ∧ w.cell? ⟨b + 1, j, none⟩ = some (.int .i64 ((highL v).getD j 0)) ∧ w.cell? ⟨b + 1 + 1 + 1, j, none⟩ = some (.int .i64 ((numL e).getD j 0)) :=
  ⟨h.2.1.2 j hj, h.2.2.1.2 j hj, h.2.2.2.2 j hj⟩
theorem RC.drewN {E : World → Prop} {b : Nat} {v : Int} {e : Ev} {w : World} (h : RC E b v e w) (hn : ∀ w1 w2, E w1 → Below w1.heap.size w1 w2 → E w2) (m : Nat) : Hid (RC E b v e (w.drewN m)) := h.keep hn (below_drewN (Below.refl _ _) m)
end Go.Proofs.YtbpjlphjhjfdoaaGreat
