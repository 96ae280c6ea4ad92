/- The typed forms have the plain one's fields; Key and Worth come through all five: for every event. -/
import Derived.Test.YtbgdkpkeghnmmaaTyped
import Derived.Test.YtbgdkpkeghnmmaaTLift
import Derived.SizedLaws
import Derived.ChangeOld
namespace Go.Proofs.Ytbgdkpkeghnmmaa.schemaTyped
open Go.ChangeShapes Go.WideShapes Go.ChangeAt Go.RowKit
set_option linter.unusedVariables false
set_option linter.unusedSimpArgs false
theorem wrap_same (x : Int) : wrap64 x = IntKind.i64.wrap x := by rw [wrap_i64]; unfold wrap64; omega
theorem ten_cells {w : World} {b : Nat} {U : TypeId} {c0 c1 c2 c3 c4 c5 c6 c7 c8 c9 : Value} (h : w.heap[b]? = some (.cells #[c0, c1, c2, c3, c4, c5, c6, c7, c8, c9] U)) :
    w.cell? ⟨b, 0, none⟩ = some c0 ∧ w.cell? ⟨b, 1, none⟩ = some c1 ∧ w.cell? ⟨b, 2, none⟩ = some c2 ∧ w.cell? ⟨b, 3, none⟩ = some c3 ∧ w.cell? ⟨b, 4, none⟩ = some c4 ∧ w.cell? ⟨b, 5, none⟩ = some c5 ∧ w.cell? ⟨b, 6, none⟩ = some c6 ∧ w.cell? ⟨b, 7, none⟩ = some c7 ∧ w.cell? ⟨b, 8, none⟩ = some c8 ∧ w.cell? ⟨b, 9, none⟩ = some c9 :=
  ⟨cell_at h 0 _ rfl, cell_at h 1 _ rfl, cell_at h 2 _ rfl, cell_at h 3 _ rfl, cell_at h 4 _ rfl, cell_at h 5 _ rfl, cell_at h 6 _ rfl, cell_at h 7 _ rfl, cell_at h 8 _ rfl, cell_at h 9 _ rfl⟩
theorem blk_lt {w : World} {b : Nat} {O : Obj} (h : w.heap[b]? = some O) : b < w.heap.size := by
  by_cases hh : b < w.heap.size
  · exact hh
  · rw [Array.getElem?_eq_none (by omega)] at h; cases h
theorem blk_keep {w w2 : World} {b : Nat} {O : Obj} (h : w.heap[b]? = some O) (hb : Below w.heap.size w w2) : w2.heap[b]? = some O := (hb.block b (blk_lt h)).trans h
theorem one_new {w w2 : World} {A : Array Value} {U : TypeId} (hb : Below (w.alloc (.cells A U)).heap.size (w.alloc (.cells A U)) w2) : Below w.heap.size w w2 ∧ w2.heap[w.heap.size]? = some (.cells A U) :=
  ⟨((Below.refl _ _).alloc (Nat.le_refl _) _).trans (hb.mono (by simp)), (hb.block w.heap.size (by simp)).trans (heap_alloc_new w _)⟩
theorem typed_held (w w3 : World) (k o i q p c t : Int) (wh : ByteArray) (s : Int) (n : ByteArray) (hA : w3.heap[w.heap.size]? = some (.cells #[.int .i64 k, .int .i64 o, .int .i64 i, .int .i64 q, .int .i64 p, .int .i64 c, .int .i64 t, .string wh, .int .i64 s, .string n] 24)) (hbel : Below w.heap.size w w3) :
    ∃ E : World → Prop, E (w3.alloc (.cells #[.int .i64 k, .int .i64 o, .int .i64 i, .int .i64 q, .int .i64 p, .int .i64 c, .int .i64 t, .string wh, .int .i64 s, .string n] 34)).drew ∧ (∀ w1 w2, E w1 → Below w1.heap.size w1 w2 → E w2) ∧ ∀ w2, E w2 → Below w.heap.size w w2 ∧ w2.heap[w.heap.size]? = some (.cells #[.int .i64 k, .int .i64 o, .int .i64 i, .int .i64 q, .int .i64 p, .int .i64 c, .int .i64 t, .string wh, .int .i64 s, .string n] 24) ∧ w2.heap[w3.heap.size]? = some (.cells #[.int .i64 k, .int .i64 o, .int .i64 i, .int .i64 q, .int .i64 p, .int .i64 c, .int .i64 t, .string wh, .int .i64 s, .string n] 34) := by
  refine ⟨fun w2 => Below (w3.heap.size + 1) (w3.alloc (.cells #[.int .i64 k, .int .i64 o, .int .i64 i, .int .i64 q, .int .i64 p, .int .i64 c, .int .i64 t, .string wh, .int .i64 s, .string n] 34)) w2, (Below.refl _ _).drew, fun w1 w2 h h2 => h.trans (h2.mono ?_), fun w2 h => ⟨?_, ?_, ?_⟩⟩
  · have := h.size
    simpa using this
  · exact (hbel.alloc hbel.size _).trans (h.mono (by have := hbel.size; omega))
  · rw [h.block w.heap.size (by have := blk_lt hA; omega), Below.heap_alloc _ _ _ (blk_lt hA)]
    exact hA
  · rw [h.block w3.heap.size (by omega)]
    exact heap_alloc_new w3 _
theorem fld5 (w : World) : (Instr.field 34 (.agg #[.int .i64 0, .int .i64 9, .int .i64 0, .int .i64 0, .int .i64 0, .int .i64 0, .int .i64 0, .string ⟨#[]⟩, .int .i64 0, .string ⟨#[]⟩]) 0).run Try.prog w = .ok (.agg #[.int .i64 0, .int .i64 9, .int .i64 0, .int .i64 0, .int .i64 0, .int .i64 0, .int .i64 0, .string ⟨#[]⟩]) w := by kernel_rfl
theorem fld4 (w : World) : (Instr.field 32 (.agg #[.int .i64 0, .int .i64 9, .int .i64 0, .int .i64 0, .int .i64 0, .int .i64 0, .int .i64 0, .string ⟨#[]⟩]) 0).run Try.prog w = .ok (.agg #[.int .i64 0, .int .i64 9, .int .i64 0, .int .i64 0, .int .i64 0, .int .i64 0, .int .i64 0]) w := by kernel_rfl
theorem fld3 (w : World) : (Instr.field 30 (.agg #[.int .i64 0, .int .i64 9, .int .i64 0, .int .i64 0, .int .i64 0, .int .i64 0, .int .i64 0]) 0).run Try.prog w = .ok (.agg #[.int .i64 0, .int .i64 9, .int .i64 0, .int .i64 0, .int .i64 0, .int .i64 0]) w := by kernel_rfl
theorem fld2 (w : World) : (Instr.field 28 (.agg #[.int .i64 0, .int .i64 9, .int .i64 0, .int .i64 0, .int .i64 0, .int .i64 0]) 0).run Try.prog w = .ok (.agg #[.int .i64 0, .int .i64 9, .int .i64 0, .int .i64 0, .int .i64 0]) w := by kernel_rfl
set_option maxRecDepth 20000 in
set_option maxHeartbeats 8000000 in
theorem walk0 (k o i q p c t : Int) (wh : ByteArray) (s : Int) (n : ByteArray) (w : World) :
    Calls Try.prog 3 #[.agg #[.int .i64 k, .int .i64 o, .int .i64 i, .int .i64 q, .int .i64 p, .int .i64 c, .int .i64 t, .string wh, .int .i64 s, .string n]] w fun x w' => x = .returned (.bool true) ∧ Below w.heap.size w w' := by
  have hf5 := fld5
  have hf4 := fld4
  have hf3 := fld3
  have hf2 := fld2
  go_enter Try.func3, Try.ntmps3
  go_wp2_with (first
    | (go_at_call_of 5 (wh); refine (lift_any k o i q p c t wh s n _).mono ?_; rintro _ w3 ⟨rfl, hb3⟩; have HB3 : Hid (Below w.heap.size w w3) := HB2.out.trans (hb3.mono HB2.out.size); have HA3 : Hid (w3.heap[w.heap.size]? = some (.cells #[.int .i64 k, .int .i64 o, .int .i64 i, .int .i64 q, .int .i64 p, .int .i64 c, .int .i64 t, .string wh, .int .i64 s, .string n] 24)) := blk_keep HA2.out hb3; clear hb3; clear a0 a1 a2 a3 a4 a5 a6 a7 a8 a9)
    | (go_at_call 5; refine (lift_any 0 9 0 0 0 0 0 ⟨#[]⟩ 0 ⟨#[]⟩ _).mono ?_; rintro _ w1 ⟨rfl, hb1⟩; obtain ⟨m1, m2⟩ := one_new hb1; have HB1 : Hid (Below w.heap.size w w1) := m1; have HA1 : Hid (w1.heap[w.heap.size]? = some (.cells #[.int .i64 k, .int .i64 o, .int .i64 i, .int .i64 q, .int .i64 p, .int .i64 c, .int .i64 t, .string wh, .int .i64 s, .string n] 24)) := m2; clear hb1 m1 m2)
    | (go_at_call 6; refine (key_any 0 9 0 0 0 _).mono ?_; rintro _ w2 ⟨rfl, hb2⟩; have HB2 : Hid (Below w.heap.size w w2) := HB1.out.trans (hb2.mono HB1.out.size); have HA2 : Hid (w2.heap[w.heap.size]? = some (.cells #[.int .i64 k, .int .i64 o, .int .i64 i, .int .i64 q, .int .i64 p, .int .i64 c, .int .i64 t, .string wh, .int .i64 s, .string n] 24)) := blk_keep HA1.out hb2; obtain ⟨a0, a1, a2, a3, a4, a5, a6, a7, a8, a9⟩ := ten_cells HA2.out; clear hb2))
  obtain ⟨E, hE, hn, hr⟩ := typed_held w w3 k o i q p c t wh s n HA3.out HB3.out
  have HN : Hid (∀ w1 w2, E w1 → Below w1.heap.size w1 w2 → E w2) := hn
  have R : Hid (∀ w2, E w2 → _) := hr
  clear hn hr
  have HC7 : Hid (∀ w2, E w2 → Calls Try.prog 7 #[.agg #[.int .i64 k, .int .i64 o, .int .i64 i, .int .i64 q, .int .i64 p, .int .i64 c, .int .i64 t, .string wh, .int .i64 s, .string n]] w2 fun e w' => e = .returned (.agg #[.int .i64 k, .int .i64 o, .int .i64 i, .int .i64 q, .int .i64 p, .int .i64 c, .int .i64 t, .string wh, .int .i64 s, .string n]) ∧ E w') := fun w2 h => (event5 k o i q p c t wh s n w2).mono fun e w' ⟨h1, h2⟩ => ⟨h1, HN.out _ _ h h2⟩
  have HC6 : Hid (∀ w2, E w2 → Calls Try.prog 6 #[.agg #[.int .i64 k, .int .i64 o, .int .i64 i, .int .i64 q, .int .i64 p]] w2 fun e w' => e = .returned (.int .i64 o) ∧ E w') := fun w2 h => (key_any k o i q p w2).mono fun e w' ⟨h1, h2⟩ => ⟨h1, HN.out _ _ h h2⟩
  have HC8 : Hid (∀ w2, E w2 → Calls Try.prog 8 #[.agg #[.int .i64 k, .int .i64 o, .int .i64 i, .int .i64 q, .int .i64 p]] w2 fun e w' => e = .returned (.int .i64 (IntKind.i64.wrap (q * p))) ∧ E w') := fun w2 h => (worth_any k o i q p w2).mono fun e w' ⟨h1, h2⟩ => ⟨h1.trans (by rw [wrap_same]), HN.out _ _ h h2⟩
  refine wp_region_quiet (C := E) (by kernel_rfl) (by kernel_rfl) hE ?_
  simp only [List.toList_toArray]
  repeat (first
    | go_big_quiet_skip
    | (go_big_quiet_want
       first
       | (refine quiet_val (v := ?_) (fun w2 hw2 => ?_) ?_
          rotate_left
          · (first | (go_simp; with_reducible rfl) | (obtain ⟨_, r1, r2⟩ := R.out w2 hw2; obtain ⟨a0, a1, a2, a3, a4, a5, a6, a7, a8, a9⟩ := ten_cells r1; obtain ⟨b0, b1, b2, b3, b4, b5, b6, b7, b8, b9⟩ := ten_cells r2; clear r1 r2; go_simp; with_reducible rfl))
          go_big_quiet_on; simp only [Act.put, List.setIfInBounds_toArray, List.set_cons_zero, List.set_cons_succ])
       | (refine quiet_call (v := ?_) (f := ?_) (args := ?_) (fun w2 hw2 => ?_) (fun w2 hw2 => ?_) ?_
          rotate_left 3
          · (go_simp; refine ⟨?_, ?_⟩ <;> with_reducible rfl)
          · (first | (go_at_call 7; exact HC7.out _ hw2) | (go_at_call 6; exact HC6.out _ hw2) | (go_at_call 8; exact HC8.out _ hw2))
          go_big_quiet_on; simp only [Act.put, List.setIfInBounds_toArray, List.set_cons_zero, List.set_cons_succ])))
  refine wpQuiet_nil ?_
  intro w4 hw4
  obtain ⟨r0, r1, r2⟩ := R.out w4 hw4
  have HB4 : Hid (Below w.heap.size w w4) := r0
  have HA4 : Hid (w4.heap[w.heap.size]? = some (.cells #[.int .i64 k, .int .i64 o, .int .i64 i, .int .i64 q, .int .i64 p, .int .i64 c, .int .i64 t, .string wh, .int .i64 s, .string n] 24)) := r1
  have HG4 : Hid (w4.heap[w3.heap.size]? = some (.cells #[.int .i64 k, .int .i64 o, .int .i64 i, .int .i64 q, .int .i64 p, .int .i64 c, .int .i64 t, .string wh, .int .i64 s, .string n] 34)) := r2
  obtain ⟨b0, b1, b2, b3, b4, b5, b6, b7, b8, b9⟩ := ten_cells r2
  have lg : w3.heap.size < w4.heap.size := blk_lt r2
  clear r0 r1 r2 hw4 hE R HN HC7 HC6 HC8 HA3 HA2 HA1 HB1 HB2 HB3
  go_wp2_with (first
    | (go_at_call 9; refine (event4 k o i q p c t wh s n _).mono ?_; rintro _ w5 ⟨rfl, hb5⟩; have HB5 : Hid (Below w.heap.size w w5) := HB4.out.trans (hb5.mono HB4.out.size); have HA5 : Hid (w5.heap[w.heap.size]? = some (.cells #[.int .i64 k, .int .i64 o, .int .i64 i, .int .i64 q, .int .i64 p, .int .i64 c, .int .i64 t, .string wh, .int .i64 s, .string n] 24)) := blk_keep HA4.out hb5; have HG5 : Hid (w5.heap[w3.heap.size]? = some (.cells #[.int .i64 k, .int .i64 o, .int .i64 i, .int .i64 q, .int .i64 p, .int .i64 c, .int .i64 t, .string wh, .int .i64 s, .string n] 34)) := blk_keep HG4.out hb5; clear b0 b1 b2 b3 b4 b5 b6 b7 b8 b9; obtain ⟨b0, b1, b2, b3, b4, b5, b6, b7, b8, b9⟩ := ten_cells HG5.out; have lg5 : w3.heap.size < w5.heap.size := blk_lt HG5.out; clear hb5 HB4 HA4 HG4 lg)
    | (go_at_call 10; refine (event3 k o i q p c t wh s n _).mono ?_; rintro _ w6 ⟨rfl, hb6⟩; obtain ⟨m1, m2⟩ := one_new hb6; have HB6 : Hid (Below w.heap.size w w6) := HB5.out.trans (m1.mono HB5.out.size); have HA6 : Hid (w6.heap[w.heap.size]? = some (.cells #[.int .i64 k, .int .i64 o, .int .i64 i, .int .i64 q, .int .i64 p, .int .i64 c, .int .i64 t, .string wh, .int .i64 s, .string n] 24)) := blk_keep HA5.out m1; have HG6 : Hid (w6.heap[w3.heap.size]? = some (.cells #[.int .i64 k, .int .i64 o, .int .i64 i, .int .i64 q, .int .i64 p, .int .i64 c, .int .i64 t, .string wh, .int .i64 s, .string n] 34)) := blk_keep HG5.out m1; have H46 : Hid (w6.heap[w5.heap.size]? = some (.cells #[.int .i64 k, .int .i64 o, .int .i64 i, .int .i64 q, .int .i64 p, .int .i64 c, .int .i64 t, .string wh, .int .i64 0, .string ⟨#[]⟩] 24)) := m2; clear b0 b1 b2 b3 b4 b5 b6 b7 b8 b9; obtain ⟨b0, b1, b2, b3, b4, b5, b6, b7, b8, b9⟩ := ten_cells HG6.out; have lg6 : w3.heap.size < w6.heap.size := blk_lt HG6.out; clear hb6 m1 m2 HB5 HA5 HG5 lg5)
    | (go_at_call 11; refine (event2 k o i q p c t wh s n _).mono ?_; rintro _ w7 ⟨rfl, hb7⟩; obtain ⟨m1, m2⟩ := one_new hb7; have HB7 : Hid (Below w.heap.size w w7) := HB6.out.trans (m1.mono HB6.out.size); have HA7 : Hid (w7.heap[w.heap.size]? = some (.cells #[.int .i64 k, .int .i64 o, .int .i64 i, .int .i64 q, .int .i64 p, .int .i64 c, .int .i64 t, .string wh, .int .i64 s, .string n] 24)) := blk_keep HA6.out m1; have HG7 : Hid (w7.heap[w3.heap.size]? = some (.cells #[.int .i64 k, .int .i64 o, .int .i64 i, .int .i64 q, .int .i64 p, .int .i64 c, .int .i64 t, .string wh, .int .i64 s, .string n] 34)) := blk_keep HG6.out m1; have H47 : Hid (w7.heap[w5.heap.size]? = some (.cells #[.int .i64 k, .int .i64 o, .int .i64 i, .int .i64 q, .int .i64 p, .int .i64 c, .int .i64 t, .string wh, .int .i64 0, .string ⟨#[]⟩] 24)) := blk_keep H46.out m1; have H37 : Hid (w7.heap[w6.heap.size]? = some (.cells #[.int .i64 k, .int .i64 o, .int .i64 i, .int .i64 q, .int .i64 p, .int .i64 c, .int .i64 t, .string ⟨#[]⟩, .int .i64 0, .string ⟨#[]⟩] 24)) := m2; clear b0 b1 b2 b3 b4 b5 b6 b7 b8 b9; obtain ⟨b0, b1, b2, b3, b4, b5, b6, b7, b8, b9⟩ := ten_cells HG7.out; have lg7 : w3.heap.size < w7.heap.size := blk_lt HG7.out; clear hb7 m1 m2 HB6 HA6 HG6 H46 lg6)
    | (go_at_call 12; refine (event1 k o i q p c t wh s n _).mono ?_; rintro _ w8 ⟨rfl, hb8⟩; obtain ⟨m1, m2⟩ := one_new hb8; have HB8 : Hid (Below w.heap.size w w8) := HB7.out.trans (m1.mono HB7.out.size); have HA8 : Hid (w8.heap[w.heap.size]? = some (.cells #[.int .i64 k, .int .i64 o, .int .i64 i, .int .i64 q, .int .i64 p, .int .i64 c, .int .i64 t, .string wh, .int .i64 s, .string n] 24)) := blk_keep HA7.out m1; have H48 : Hid (w8.heap[w5.heap.size]? = some (.cells #[.int .i64 k, .int .i64 o, .int .i64 i, .int .i64 q, .int .i64 p, .int .i64 c, .int .i64 t, .string wh, .int .i64 0, .string ⟨#[]⟩] 24)) := blk_keep H47.out m1; have H38 : Hid (w8.heap[w6.heap.size]? = some (.cells #[.int .i64 k, .int .i64 o, .int .i64 i, .int .i64 q, .int .i64 p, .int .i64 c, .int .i64 t, .string ⟨#[]⟩, .int .i64 0, .string ⟨#[]⟩] 24)) := blk_keep H37.out m1; have H28 : Hid (w8.heap[w7.heap.size]? = some (.cells #[.int .i64 k, .int .i64 o, .int .i64 i, .int .i64 q, .int .i64 p, .int .i64 c, .int .i64 0, .string ⟨#[]⟩, .int .i64 0, .string ⟨#[]⟩] 24)) := m2; have HG8 : Hid (w8.heap[w3.heap.size]? = some (.cells #[.int .i64 k, .int .i64 o, .int .i64 i, .int .i64 q, .int .i64 p, .int .i64 c, .int .i64 t, .string wh, .int .i64 s, .string n] 34)) := blk_keep HG7.out m1; clear b0 b1 b2 b3 b4 b5 b6 b7 b8 b9; obtain ⟨a0, a1, a2, a3, a4, a5, a6, a7, a8, a9⟩ := ten_cells HA8.out; obtain ⟨b0, b1, b2, b3, b4, b5, b6, b7, b8, b9⟩ := ten_cells HG8.out; obtain ⟨x0, x1, x2, x3, x4, x5, x6, x7, x8, x9⟩ := ten_cells H48.out; obtain ⟨y0, y1, y2, y3, y4, y5, y6, y7, y8, y9⟩ := ten_cells H38.out; obtain ⟨z0, z1, z2, z3, z4, z5, z6, z7, z8, z9⟩ := ten_cells H28.out; have l0 : w.heap.size < w8.heap.size := blk_lt HA8.out; have l3 : w3.heap.size < w8.heap.size := blk_lt HG8.out; have l5 : w5.heap.size < w8.heap.size := blk_lt H48.out; have l6 : w6.heap.size < w8.heap.size := blk_lt H38.out; have l7 : w7.heap.size < w8.heap.size := blk_lt H28.out; clear hb8 m1 m2 HB7 HA7 HG7 H47 H37 lg7))
  go_ret
  refine ⟨ret_bool ?_, (HB8.out.alloc HB8.out.size _).alloc (by have := HB8.out.size; simp; omega) _⟩
  first | rfl | (simp; done)
theorem walk (e : Ev) (w : World) (w0 : e.Fit) :
    Calls Try.prog 3 #[.agg (evA e)] w fun x w' => x = .returned (.bool true) ∧ Below w.heap.size w w' :=
  walk0 e.kind e.order e.item e.qty e.price e.cur e.tax e.who e.stamp e.note w
theorem own : ownKnob Try.prog.godebug = none := by kernel_rfl
theorem laidOut : laidOutB Try.prog = true := by kernel_rfl
set_option maxRecDepth 100000 in
theorem contract (H : Type) (enc : TypeId × Value → H) (W : World) (base : Nat) (args : Array Value) (ds gs : List (DataW H)) (before : List MemPlace)
    (hval : ∀ (j : Nat) t v, Try.f3.params[j]? = some t → args[j]? = some v → Value.okWide Try.prog W .any base t v)
    (hW : DataW.Whole enc Try.prog Try.f3.params.toList Rows.schemaTypedSpec.vars false W args.toList ds gs before)
    (hsz : (DataW.weightsEach Try.prog (Try.f3.params.toList ++ Rows.schemaTypedSpec.plain.varTypes Try.prog) (ds ++ gs)).all (· ≤ reachBytes) = true) :
    Calls Try.prog 3 args W fun e W' => ∃ v, e = .returned v ∧ Rows.schemaTypedSpec.post enc Try.prog Try.f3 false true false false W args v W' := by
  have hW' := hW
  obtain ⟨p, q, hA0, hV, rfl, hfz, hnd⟩ := hW
  have hA : DataW.TrodAll enc Try.prog W 0 (fun _ => true) true Try.f3.params.toList args.toList ds p := hA0
  rw [Try.params3] at hA hval hsz
  obtain ⟨v0, vs0, d0, ds0, p0, q0, hargs, rfl, rfl, h0, r0⟩ := trodAll_cons hA
  obtain ⟨rfl, rfl, rfl⟩ := trodAll_nil r0
  obtain rfl : args = #[v0] := by cases args; simp_all
  obtain ⟨rfl, rfl⟩ := trodVars_none hV
  have k0 := h0
  have lt0 : ∀ x ∈ p0, x.block < W.heap.size := by obtain ⟨m, hm⟩ := k0; exact DataW.trod_lt m _ _ _ hm
  obtain ⟨a0, rfl, _, w0⟩ := open_event Try.underlying24 (by kernel_rfl) (by kernel_rfl) (by kernel_rfl) (by kernel_rfl) (by kernel_rfl) (by kernel_rfl) (by kernel_rfl) (by kernel_rfl) (by kernel_rfl) (by kernel_rfl) (by kernel_rfl) (by kernel_rfl) (hval 0 24 v0 rfl rfl) h0
  clear hA0
  refine (walk a0 W w0).mono fun e W' ⟨he, bel⟩ => ?_
  subst he
  exact ⟨_, rfl, _, _, _, [], _, [], hW', trodAll_mk1 (shut_bool Try.underlying4 _), (trodAll_cons_mk (Below.trod laidOut (by kernel_rfl) (of_decide_eq_true (by kernel_rfl)) k0 bel lt0) trodAll_mk0), rfl, bel.frame _, fun h => by cases h⟩
set_option maxRecDepth 100000 in
theorem lifted (os : Os) (started : os.Started) (H : Type) (enc : TypeId × Value → H) :
    ReturnsInHanded {} Try.checked os 3 .any (Rows.schemaTypedSpec.pre6 enc Try.prog Try.f3 Rows.schemaTypedRow.domain false) (Rows.schemaTypedSpec.post enc Try.prog Try.f3 false true false false) := by
  refine returnsInHanded_of_change_sized (C := Try.checked) own started (by kernel_rfl) Try.func3
    (ChangeSpec.witness6 (enc := enc) (C := Try.checked) false ⟨#[], #[.agg #[.int .i64 0, .int .i64 0, .int .i64 0, .int .i64 0, .int .i64 0, .int .i64 0, .int .i64 0, .string ⟨#[]⟩, .int .i64 0, .string ⟨#[]⟩]], []⟩ 8 (by kernel_rfl) (by kernel_rfl) (by kernel_rfl) (by kernel_rfl)) ?_
  intro W base args ds gs before hval hW _ hsz _
  exact contract H enc W base args ds gs before hval hW hsz
theorem over : Rows.schemaTypedRow.holds Try.pinned (OpenSpec.ofChange Rows.schemaTypedSpec) :=
  OpenClaim.holds_of_wide 3 Try.f3 rfl rfl rfl rfl rfl rfl rfl ⟨rfl, rfl, rfl, rfl, rfl⟩ rfl rfl rfl rfl rfl (by kernel_rfl) Try.func3 (by kernel_rfl)
    (of_decide_eq_true (by kernel_rfl)) (by unfold Func.isWrapper; first | (rw [if_pos (by decide +kernel)]; kernel_rfl) | (rw [if_neg (by decide +kernel)]; exact ⟨rfl, rfl⟩))
    (fun os started H enc _ => lifted os started H enc)
theorem proved : Rows.SchemaTypedSaid := over
end Go.Proofs.Ytbgdkpkeghnmmaa.schemaTyped
