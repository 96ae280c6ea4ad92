/- The typed forms of an event: Event, Key, Worth. -/
import Derived.Test.YtbgdkpkeghnmmaaEvM
import Derived.BigRegion
namespace Go.Proofs.Ytbgdkpkeghnmmaa
open Go.ChangeShapes Go.WideShapes Go.ChangeAt Go.RowKit
set_option linter.unusedVariables false
theorem two_new {w w2 : World} {A B : Array Value} {T U : TypeId} (hb : Below ((w.alloc (.cells A T)).alloc (.cells B U)).heap.size ((w.alloc (.cells A T)).alloc (.cells B U)) w2) : Below w.heap.size w w2 ∧ w2.heap[w.heap.size]? = some (.cells A T) ∧ w2.heap[w.heap.size + 1]? = some (.cells B U) := by
  refine ⟨(((Below.refl _ _).alloc (Nat.le_refl _) _).alloc (by simp) _).trans (hb.mono (by simp; omega)), ?_, ?_⟩
  · rw [hb.block w.heap.size (by simp; omega)]
    simp only [World.alloc, Array.getElem?_push, Array.size_push]; simp
  · rw [hb.block (w.heap.size + 1) (by simp)]
    simp only [World.alloc, Array.getElem?_push, Array.size_push]; simp
theorem cell_at {w : World} {b : Nat} {C : Array Value} {U : TypeId} (h : w.heap[b]? = some (.cells C U)) (j : Nat) (v : Value) (hv : C[j]? = some v) : w.cell? ⟨b, j, none⟩ = some v := by
  rw [cell_of_row w b j _ _ _ h]; exact hv
theorem results_one {fn : Func} {p : Tmp} (h : fn.results = #[.cell p 24]) (tmps : Array Value) (w : World) (b : Nat) (e : Ev) (hp : tmps.getD p undef = .pointer (some ⟨b, 0, none⟩)) (hl : EvAt w b e) :
    (results fn tmps).run Try.prog w = .ok (.agg (evA e)) w := by
  simp only [Array.getD_eq_getD_getElem?] at hp
  simp [results, h, hp, asAddr, hl.loadVar]
set_option maxRecDepth 20000 in
theorem key_any (k o i q p : Int) (w : World) :
    Calls Try.prog 6 #[.agg #[.int .i64 k, .int .i64 o, .int .i64 i, .int .i64 q, .int .i64 p]] w fun e w' => e = .returned (.int .i64 o) ∧ Below w.heap.size w w' := by
  go_enter Try.func6, Try.ntmps6
  go_wp2
  go_ret
  exact ⟨rfl, (Below.refl _ _).alloc (Nat.le_refl _) _⟩
set_option maxRecDepth 20000 in
theorem worth_any (k o i q p : Int) (w : World) :
    Calls Try.prog 8 #[.agg #[.int .i64 k, .int .i64 o, .int .i64 i, .int .i64 q, .int .i64 p]] w fun e w' => e = .returned (.int .i64 (wrap64 (q * p))) ∧ Below w.heap.size w w' := by
  go_enter Try.func8, Try.ntmps8
  go_wp2
  go_ret
  exact ⟨rfl, (Below.refl _ _).alloc (Nat.le_refl _) _⟩
set_option maxRecDepth 20000 in
set_option maxHeartbeats 1000000 in
theorem event1 (k o i q p c t : Int) (wh : ByteArray) (s : Int) (n : ByteArray) (w : World) :
    Calls Try.prog 12 #[.agg #[.int .i64 k, .int .i64 o, .int .i64 i, .int .i64 q, .int .i64 p]] w fun e w' => e = .returned (.agg #[.int .i64 k, .int .i64 o, .int .i64 i, .int .i64 q, .int .i64 p, .int .i64 0, .int .i64 0, .string ⟨#[]⟩, .int .i64 0, .string ⟨#[]⟩]) ∧ Below w.heap.size w w' := by
  go_enter Try.func12, Try.ntmps12
  go_wp2
  exact bodyPost_ret (v := .agg #[.int .i64 k, .int .i64 o, .int .i64 i, .int .i64 q, .int .i64 p, .int .i64 0, .int .i64 0, .string ⟨#[]⟩, .int .i64 0, .string ⟨#[]⟩]) (by simp [results, Try.results12, go_sem]) rfl ⟨rfl, ((Below.refl _ _).alloc (Nat.le_refl _) _).alloc (by simp) _⟩
set_option maxRecDepth 20000 in
set_option maxHeartbeats 4000000 in
theorem event2 (k o i q p c t : Int) (wh : ByteArray) (s : Int) (n : ByteArray) (w : World) :
    Calls Try.prog 11 #[.agg #[.int .i64 k, .int .i64 o, .int .i64 i, .int .i64 q, .int .i64 p, .int .i64 c]] w fun e w' => e = .returned (.agg #[.int .i64 k, .int .i64 o, .int .i64 i, .int .i64 q, .int .i64 p, .int .i64 c, .int .i64 0, .string ⟨#[]⟩, .int .i64 0, .string ⟨#[]⟩]) ∧ Below w.heap.size w w' := by
  go_enter Try.func11, Try.ntmps11
  go_wp2_with (first
    | (go_at_call 12; refine (event1 k o i q p c t wh s n _).mono ?_; rintro _ w8 ⟨rfl, hb8⟩; obtain ⟨m1, m2, m3⟩ := two_new hb8; have hz := hb8.size; have hlt : w.heap.size + 1 < w8.heap.size := Nat.lt_of_lt_of_le (by simp) hz; have hlt0 : w.heap.size < w8.heap.size := (by omega); have HB8 : Hid (Below w.heap.size w w8) := m1; have e5 := cell_at m2 5 (.int .i64 c) rfl; have HZ : Hid (EvAt w8 (w.heap.size + 1) zeroE) := m3; clear hb8 hz m1 m2 m3)
    | ((with_reducible refine guard_store 24 ?_); refine wpList_store_ev (b := w.heap.size + 1) (e := zeroE) (e2 := ⟨k, o, i, q, p, c, 0, ⟨#[]⟩, 0, ⟨#[]⟩⟩) rfl _ _ rfl (HZ.out.after ((Below.refl _ _).alloc (Nat.le_refl _) _)) rfl rfl ?_; intro w9 z1 z2 z3 z4))
  exact bodyPost_ret (v := .agg #[.int .i64 k, .int .i64 o, .int .i64 i, .int .i64 q, .int .i64 p, .int .i64 c, .int .i64 0, .string ⟨#[]⟩, .int .i64 0, .string ⟨#[]⟩]) (results_one Try.results11 _ _ _ ⟨k, o, i, q, p, c, 0, ⟨#[]⟩, 0, ⟨#[]⟩⟩ rfl z1) rfl ⟨rfl, z2 _ _ (HB8.out.alloc HB8.out.size _) (by omega)⟩
set_option maxRecDepth 20000 in
set_option maxHeartbeats 4000000 in
theorem event3 (k o i q p c t : Int) (wh : ByteArray) (s : Int) (n : ByteArray) (w : World) :
    Calls Try.prog 10 #[.agg #[.int .i64 k, .int .i64 o, .int .i64 i, .int .i64 q, .int .i64 p, .int .i64 c, .int .i64 t]] w fun e w' => e = .returned (.agg #[.int .i64 k, .int .i64 o, .int .i64 i, .int .i64 q, .int .i64 p, .int .i64 c, .int .i64 t, .string ⟨#[]⟩, .int .i64 0, .string ⟨#[]⟩]) ∧ Below w.heap.size w w' := by
  go_enter Try.func10, Try.ntmps10
  go_wp2_with (first
    | (go_at_call 11; refine (event2 k o i q p c t wh s n _).mono ?_; rintro _ w8 ⟨rfl, hb8⟩; obtain ⟨m1, m2, m3⟩ := two_new hb8; have hz := hb8.size; have hlt : w.heap.size + 1 < w8.heap.size := Nat.lt_of_lt_of_le (by simp) hz; have hlt0 : w.heap.size < w8.heap.size := (by omega); have HB8 : Hid (Below w.heap.size w w8) := m1; have e6 := cell_at m2 6 (.int .i64 t) rfl; have HZ : Hid (EvAt w8 (w.heap.size + 1) zeroE) := m3; clear hb8 hz m1 m2 m3)
    | ((with_reducible refine guard_store 24 ?_); refine wpList_store_ev (b := w.heap.size + 1) (e := zeroE) (e2 := ⟨k, o, i, q, p, c, t, ⟨#[]⟩, 0, ⟨#[]⟩⟩) rfl _ _ rfl (HZ.out.after ((Below.refl _ _).alloc (Nat.le_refl _) _)) rfl rfl ?_; intro w9 z1 z2 z3 z4))
  exact bodyPost_ret (v := .agg #[.int .i64 k, .int .i64 o, .int .i64 i, .int .i64 q, .int .i64 p, .int .i64 c, .int .i64 t, .string ⟨#[]⟩, .int .i64 0, .string ⟨#[]⟩]) (results_one Try.results10 _ _ _ ⟨k, o, i, q, p, c, t, ⟨#[]⟩, 0, ⟨#[]⟩⟩ rfl z1) rfl ⟨rfl, z2 _ _ (HB8.out.alloc HB8.out.size _) (by omega)⟩
set_option maxRecDepth 20000 in
set_option maxHeartbeats 4000000 in
theorem event4 (k o i q p c t : Int) (wh : ByteArray) (s : Int) (n : ByteArray) (w : World) :
    Calls Try.prog 9 #[.agg #[.int .i64 k, .int .i64 o, .int .i64 i, .int .i64 q, .int .i64 p, .int .i64 c, .int .i64 t, .string wh]] w fun e w' => e = .returned (.agg #[.int .i64 k, .int .i64 o, .int .i64 i, .int .i64 q, .int .i64 p, .int .i64 c, .int .i64 t, .string wh, .int .i64 0, .string ⟨#[]⟩]) ∧ Below w.heap.size w w' := by
  go_enter Try.func9, Try.ntmps9
  go_wp2_with (first
    | (go_at_call 10; refine (event3 k o i q p c t wh s n _).mono ?_; rintro _ w8 ⟨rfl, hb8⟩; obtain ⟨m1, m2, m3⟩ := two_new hb8; have hz := hb8.size; have hlt : w.heap.size + 1 < w8.heap.size := Nat.lt_of_lt_of_le (by simp) hz; have hlt0 : w.heap.size < w8.heap.size := (by omega); have HB8 : Hid (Below w.heap.size w w8) := m1; have e7 := cell_at m2 7 (.string wh) rfl; have HZ : Hid (EvAt w8 (w.heap.size + 1) zeroE) := m3; clear hb8 hz m1 m2 m3)
    | ((with_reducible refine guard_store 24 ?_); refine wpList_store_ev (b := w.heap.size + 1) (e := zeroE) (e2 := ⟨k, o, i, q, p, c, t, wh, 0, ⟨#[]⟩⟩) rfl _ _ rfl (HZ.out.after ((Below.refl _ _).alloc (Nat.le_refl _) _)) rfl rfl ?_; intro w9 z1 z2 z3 z4))
  exact bodyPost_ret (v := .agg #[.int .i64 k, .int .i64 o, .int .i64 i, .int .i64 q, .int .i64 p, .int .i64 c, .int .i64 t, .string wh, .int .i64 0, .string ⟨#[]⟩]) (results_one Try.results9 _ _ _ ⟨k, o, i, q, p, c, t, wh, 0, ⟨#[]⟩⟩ rfl z1) rfl ⟨rfl, z2 _ _ (HB8.out.alloc HB8.out.size _) (by omega)⟩
set_option maxRecDepth 20000 in
set_option maxHeartbeats 4000000 in
theorem event5 (k o i q p c t : Int) (wh : ByteArray) (s : Int) (n : ByteArray) (w : World) :
    Calls Try.prog 7 #[.agg #[.int .i64 k, .int .i64 o, .int .i64 i, .int .i64 q, .int .i64 p, .int .i64 c, .int .i64 t, .string wh, .int .i64 s, .string n]] w fun e w' => e = .returned (.agg #[.int .i64 k, .int .i64 o, .int .i64 i, .int .i64 q, .int .i64 p, .int .i64 c, .int .i64 t, .string wh, .int .i64 s, .string n]) ∧ Below w.heap.size w w' := by
  go_enter Try.func7, Try.ntmps7
  go_wp2_with (first
    | (go_at_call 9; refine (event4 k o i q p c t wh s n _).mono ?_; rintro _ w8 ⟨rfl, hb8⟩; obtain ⟨m1, m2, m3⟩ := two_new hb8; have hz := hb8.size; have hlt : w.heap.size + 1 < w8.heap.size := Nat.lt_of_lt_of_le (by simp) hz; have hlt0 : w.heap.size < w8.heap.size := (by omega); have HB8 : Hid (Below w.heap.size w w8) := m1; have e8 := cell_at m2 8 (.int .i64 s) rfl; have e9 := cell_at m2 9 (.string n) rfl; have HZ : Hid (EvAt w8 (w.heap.size + 1) zeroE) := m3; clear hb8 hz m1 m2 m3)
    | ((with_reducible refine guard_store 24 ?_); refine wpList_store_ev (b := w.heap.size + 1) (e := zeroE) (e2 := ⟨k, o, i, q, p, c, t, wh, s, n⟩) rfl _ _ rfl (HZ.out.after (((Below.refl _ _).alloc (Nat.le_refl _) _).drew)) rfl rfl ?_; intro w9 z1 z2 z3 z4))
  go_region
  go_wp2_with (first
    | ((with_reducible refine guard_store 24 ?_); refine wpList_store_ev (b := w.heap.size + 1) (e := zeroE) (e2 := ⟨k, o, i, q, p, c, t, wh, s, n⟩) rfl _ _ rfl (HZ.out.after (((Below.refl _ _).alloc (Nat.le_refl _) _).drew)) rfl rfl ?_; intro w9 z1 z2 z3 z4))
  exact bodyPost_ret (v := .agg #[.int .i64 k, .int .i64 o, .int .i64 i, .int .i64 q, .int .i64 p, .int .i64 c, .int .i64 t, .string wh, .int .i64 s, .string n]) (results_one Try.results7 _ _ _ ⟨k, o, i, q, p, c, t, wh, s, n⟩ rfl z1) rfl ⟨rfl, z2 _ _ ((HB8.out.alloc HB8.out.size _).drew) (by omega)⟩
end Go.Proofs.Ytbgdkpkeghnmmaa
