/- What errors.As answers for a *fault.Fault. -/
import Derived.Test.YtpjcmfoamdiohaaDoorFltQ
import Derived.Test.YtpjcmfoamdiohaaDoorTwo
namespace Go.Proofs.YtpjcmfoamdiohaaDoor
open Go.ChangeShapes Go.WideShapes Go.ChangeAt Go.RowKit
open Go.Extern.Stop Go.Stop Go.Extern
set_option linter.unusedVariables false
theorem Tryd.noAsE (v : Value) (xT : TypeId) (w : World) : (Instr.typeAssert (.iface 59 v) xT 88 true).run Tryd.prog w = .ok (.tuple #[.nilIface, .bool false]) w := run_typeAssert_lacksB Tryd.underlying88 (by kernel_rfl) (by kernel_rfl) v xT w
theorem new1 (w : World) (x : Value) (T : TypeId) : (w.alloc (.cells #[x] T)).cell? ⟨w.heap.size, 0, none⟩ = some x := by
  have e : (w.alloc (.cells #[x] T)).heap[w.heap.size]? = some (.cells #[x] T) := by
    simp only [World.alloc, Array.getElem?_push]; rw [if_pos trivial]
  rw [cell_of_row _ _ 0 _ _ _ e]; rfl
set_option maxRecDepth 100000 in
set_option maxHeartbeats 4000000 in
theorem as_sen (a : Addr) (p bt : Nat) (w : World) :
    Calls Tryd.prog 33 #[senV a, .iface 75 (.pointer (some ⟨p, 0, none⟩)), rval 75 ⟨bt, 0, none⟩ 150, rty 49] w fun r w' => r = .returned (.bool false) ∧ Below w.heap.size w w' := by
  have tT := Tryd.callTypeOf
  have m1 := Tryd.x6
  have c1 := Tryd.x10
  have n1 := Tryd.noAsE
  have n2 := Tryd.noUnwE
  have n3 := Tryd.noUnwsE
  go_enter Tryd.func33, Tryd.ntmps33
  go_wp2
  refine wp_loop_rounds 1 ?_
  rw [rounds_succ]
  go_wp2
  go_ret
  exact ⟨rfl, (Below.refl _ _).alloc (Nat.le_refl _) _⟩
set_option maxRecDepth 100000 in
set_option maxHeartbeats 4000000 in
theorem as_flt (b p bt : Nat) (o : Option Addr) (w : World) (h1 : w.heap[p]? = some (.cells #[.pointer o] 49)) (h2 : w.heap[bt]? = some (.cells #[.pointer (some ⟨p, 0, none⟩)] 75)) :
    Calls Tryd.prog 33 #[fltV b, .iface 75 (.pointer (some ⟨p, 0, none⟩)), rval 75 ⟨bt, 0, none⟩ 150, rty 49] w fun r w' => r = .returned (.bool true) ∧ w'.heap[p]? = some (.cells #[.pointer (some ⟨b, 0, none⟩)] 49) ∧ Kept p p w w' := by
  have lt : ∀ {k : Nat} {o : Obj}, w.heap[k]? = some o → k < w.heap.size := fun {k o} h => by
    by_cases hh : k < w.heap.size
    · exact hh
    · rw [Array.getElem?_eq_none (by omega)] at h; cases h
  have hp := lt h1
  have hb := lt h2
  obtain ⟨W1, hW1⟩ : ∃ W1, w.alloc (.cells #[.pointer (some ⟨46, 75, none⟩), .pointer (some ⟨bt, 0, none⟩), .int .u64 150] 79) = W1 := ⟨_, rfl⟩
  obtain ⟨W2, hW2⟩ : ∃ W2, W1.alloc (.cells #[.pointer (some ⟨b, 0, none⟩)] 49) = W2 := ⟨_, rfl⟩
  have B1 : Below w.heap.size w W1 := by rw [← hW1]; exact (Below.refl _ _).alloc (Nat.le_refl _) _
  have B2 : Below W1.heap.size W1 W2 := by rw [← hW2]; exact (Below.refl _ _).alloc (Nat.le_refl _) _
  have r1 : W1.heap[bt]? = some (.cells #[.pointer (some ⟨p, 0, none⟩)] 75) := (B1.block bt hb).trans h2
  have r2 : W2.heap[p]? = some (.cells #[.pointer o] 49) := (B2.block p (Nat.lt_of_lt_of_le hp B1.size)).trans ((B1.block p hp).trans h1)
  have e1 := Tryd.y2 bt ⟨p, 0, none⟩ W1 (by rw [cell_of_row _ _ 0 _ _ _ r1]; rfl)
  have e3 := Tryd.y3 p W1.heap.size o ⟨b, 0, none⟩ W2 (by rw [cell_of_row _ _ 0 _ _ _ r2]; rfl) (by rw [← hW2]; exact new1 W1 _ _) (frozen_of_row _ _ 0 _ _ r2)
  have tT := Tryd.x11
  have m1 := Tryd.x6
  have c1 := Tryd.x9
  have e2 := Tryd.x1f ⟨b, 0, none⟩ W1
  rw [hW2] at e2
  have r3 : W1.heap[w.heap.size]? = some (.cells #[.pointer (some ⟨46, 75, none⟩), .pointer (some ⟨bt, 0, none⟩), .int .u64 150] 79) := by rw [← hW1]; simp only [World.alloc, Array.getElem?_push]; rw [if_pos trivial]
  have k0 : W1.cell? ⟨w.heap.size, 0, none⟩ = some (.pointer (some ⟨46, 75, none⟩)) := by rw [cell_of_row _ _ 0 _ _ _ r3]; rfl
  have k1 : W1.cell? ⟨w.heap.size, 1, none⟩ = some (.pointer (some ⟨bt, 0, none⟩)) := by rw [cell_of_row _ _ 1 _ _ _ r3]; rfl
  have k2 : W1.cell? ⟨w.heap.size, 2, none⟩ = some (.int .u64 150) := by rw [cell_of_row _ _ 2 _ _ _ r3]; rfl
  have HE : Hid (W2.heap[p]? = some (.cells #[.pointer o] 49) ∧ Below w.heap.size w W2) := ⟨r2, below_nx B1 B2⟩
  clear r1 r2 r3 B1 B2 h1 h2 hp hb lt
  go_enter Tryd.func33, Tryd.ntmps33
  go_wp2
  refine wp_loop_rounds 1 ?_
  rw [rounds_succ]
  go_wp2
  go_ret
  refine ⟨rfl, ?_, ?_⟩
  · rw [heap_setCell_same W2 p 0 _ _ _ HE.out.1]; rfl
  · obtain ⟨_, hB⟩ := HE.out
    exact ⟨hB.os, hB.tape, hB.output, by simp; exact hB.size, fun k hk h1 _ => (heap_setCell_other W2 ⟨p, 0, none⟩ k _ h1).trans (hB.block k hk)⟩
theorem Kept.of_below {g : Nat} {a b : World} (h : Below a.heap.size a b) : Kept g g a b := ⟨h.os, h.tape, h.output, h.size, fun k hk _ _ => h.block k hk⟩
theorem Kept.chain {g : Nat} {a b c : World} (h : Kept g g a b) (k : Kept g g b c) : Kept g g a c :=
  ⟨k.os.trans h.os, k.tape.trans h.tape, k.output.trans h.output, Nat.le_trans h.size k.size, fun j hj h1 h2 => (k.block j (Nat.lt_of_lt_of_le hj h.size) h1 h2).trans (h.block j hj h1 h2)⟩
set_option maxRecDepth 100000 in
set_option maxHeartbeats 4000000 in
theorem eas_nil (p : Nat) (w : World) :
    Calls Tryd.prog 28 #[.nilIface, .iface 75 (.pointer (some ⟨p, 0, none⟩))] w fun r w' => r = .returned (.bool false) ∧ Below w.heap.size w w' := by
  go_enter Tryd.func28, Tryd.ntmps28
  go_wp2
  go_ret
  exact ⟨rfl, Below.refl _ _⟩
set_option maxRecDepth 100000 in
set_option maxHeartbeats 4000000 in
theorem eas_sen (a : Addr) (p : Nat) (w : World) (hg : w.cell? ⟨42, 0, none⟩ = some (rty 30)) :
    Calls Tryd.prog 28 #[senV a, .iface 75 (.pointer (some ⟨p, 0, none⟩))] w fun r w' => r = .returned (.bool false) ∧ Below w.heap.size w w' := by
  have f1 := Tryd.x1
  have f2 := Tryd.x2
  have f3 := Tryd.x4
  have f4 := Tryd.x5
  have f5 := Tryd.x7
  have f6 := Tryd.x8
  have f7 := Tryd.x12
  have f8 := Tryd.x13
  have f9 := Tryd.x14
  have f10 := Tryd.x15
  obtain ⟨W, hW⟩ : ∃ W, (w.alloc (.cells #[.pointer (some ⟨p, 0, none⟩)] 75)).alloc (.cells #[.pointer (some ⟨46, 75, none⟩), .pointer (some ⟨w.heap.size, 0, none⟩), .int .u64 150] 79) = W := ⟨_, rfl⟩
  have hB : Below w.heap.size w W := by rw [← hW]; exact ((Below.refl _ _).alloc (Nat.le_refl _) _).alloc (by simp) _
  have r1 : W.heap[w.heap.size]? = some (.cells #[.pointer (some ⟨p, 0, none⟩)] 75) := by
    rw [← hW]; simp only [World.alloc, Array.getElem?_push, Array.size_push]; rw [if_neg (by omega), if_pos trivial]
  have r3 : W.heap[w.heap.size + 1]? = some (.cells #[.pointer (some ⟨46, 75, none⟩), .pointer (some ⟨w.heap.size, 0, none⟩), .int .u64 150] 79) := by
    rw [← hW]; simp only [World.alloc, Array.getElem?_push, Array.size_push]; rw [if_pos trivial]
  have k0 : W.cell? ⟨w.heap.size + 1, 0, none⟩ = some (.pointer (some ⟨46, 75, none⟩)) := by rw [cell_of_row _ _ 0 _ _ _ r3]; rfl
  have k1 : W.cell? ⟨w.heap.size + 1, 1, none⟩ = some (.pointer (some ⟨w.heap.size, 0, none⟩)) := by rw [cell_of_row _ _ 1 _ _ _ r3]; rfl
  have k2 : W.cell? ⟨w.heap.size + 1, 2, none⟩ = some (.int .u64 150) := by rw [cell_of_row _ _ 2 _ _ _ r3]; rfl
  have k3 := Tryd.y1 w.heap.size ⟨p, 0, none⟩ W (by rw [cell_of_row _ _ 0 _ _ _ r1]; rfl)
  have k4 : W.cell? ⟨42, 0, none⟩ = some (rty 30) := (hB.cell (p := ⟨42, 0, none⟩) (World.block_lt_of_cell? _ _ hg)).trans hg
  have HB : Hid (Below w.heap.size w W) := hB
  have HR1 : Hid (W.heap[w.heap.size]? = some (.cells #[.pointer (some ⟨p, 0, none⟩)] 75)) := r1
  clear r1 r3 hB
  go_enter Tryd.func28, Tryd.ntmps28
  go_wp2_with (go_at_call 33; refine (as_sen a p w.heap.size W).mono ?_; rintro r w2 ⟨rfl, hb2⟩)
  go_ret
  exact ⟨rfl, below_nx HB.out hb2⟩
set_option maxRecDepth 100000 in
set_option maxHeartbeats 4000000 in
theorem eas_flt (b p : Nat) (o : Option Addr) (w : World) (hg : w.cell? ⟨42, 0, none⟩ = some (rty 30)) (hp : w.heap[p]? = some (.cells #[.pointer o] 49)) :
    Calls Tryd.prog 28 #[fltV b, .iface 75 (.pointer (some ⟨p, 0, none⟩))] w fun r w' => r = .returned (.bool true) ∧ w'.heap[p]? = some (.cells #[.pointer (some ⟨b, 0, none⟩)] 49) ∧ Kept p p w w' := by
  have f1 := Tryd.x1
  have f2 := Tryd.x2
  have f3 := Tryd.x4
  have f4 := Tryd.x5
  have f5 := Tryd.x7
  have f6 := Tryd.x8
  have f7 := Tryd.x12
  have f8 := Tryd.x13
  have f9 := Tryd.x14
  have f10 := Tryd.x15
  obtain ⟨W, hW⟩ : ∃ W, (w.alloc (.cells #[.pointer (some ⟨p, 0, none⟩)] 75)).alloc (.cells #[.pointer (some ⟨46, 75, none⟩), .pointer (some ⟨w.heap.size, 0, none⟩), .int .u64 150] 79) = W := ⟨_, rfl⟩
  have hB : Below w.heap.size w W := by rw [← hW]; exact ((Below.refl _ _).alloc (Nat.le_refl _) _).alloc (by simp) _
  have r1 : W.heap[w.heap.size]? = some (.cells #[.pointer (some ⟨p, 0, none⟩)] 75) := by
    rw [← hW]; simp only [World.alloc, Array.getElem?_push, Array.size_push]; rw [if_neg (by omega), if_pos trivial]
  have r3 : W.heap[w.heap.size + 1]? = some (.cells #[.pointer (some ⟨46, 75, none⟩), .pointer (some ⟨w.heap.size, 0, none⟩), .int .u64 150] 79) := by
    rw [← hW]; simp only [World.alloc, Array.getElem?_push, Array.size_push]; rw [if_pos trivial]
  have k0 : W.cell? ⟨w.heap.size + 1, 0, none⟩ = some (.pointer (some ⟨46, 75, none⟩)) := by rw [cell_of_row _ _ 0 _ _ _ r3]; rfl
  have k1 : W.cell? ⟨w.heap.size + 1, 1, none⟩ = some (.pointer (some ⟨w.heap.size, 0, none⟩)) := by rw [cell_of_row _ _ 1 _ _ _ r3]; rfl
  have k2 : W.cell? ⟨w.heap.size + 1, 2, none⟩ = some (.int .u64 150) := by rw [cell_of_row _ _ 2 _ _ _ r3]; rfl
  have k3 := Tryd.y1 w.heap.size ⟨p, 0, none⟩ W (by rw [cell_of_row _ _ 0 _ _ _ r1]; rfl)
  have k4 : W.cell? ⟨42, 0, none⟩ = some (rty 30) := (hB.cell (p := ⟨42, 0, none⟩) (World.block_lt_of_cell? _ _ hg)).trans hg
  have HB : Hid (Below w.heap.size w W) := hB
  have HR1 : Hid (W.heap[w.heap.size]? = some (.cells #[.pointer (some ⟨p, 0, none⟩)] 75)) := r1
  clear r1 r3 hB
  have hlt : p < w.heap.size := by
    by_cases hh : p < w.heap.size
    · exact hh
    · rw [Array.getElem?_eq_none (by omega)] at hp; cases hp
  have HP : Hid (W.heap[p]? = some (.cells #[.pointer o] 49)) := (HB.out.block p hlt).trans hp
  clear hp hlt
  go_enter Tryd.func28, Tryd.ntmps28
  go_wp2_with (go_at_call 33; refine (as_flt b p w.heap.size o W HP.out HR1.out).mono ?_; rintro r w2 ⟨rfl, hr2, hk2⟩)
  go_ret
  exact ⟨rfl, hr2, (Kept.of_below HB.out).chain hk2⟩
end Go.Proofs.YtpjcmfoamdiohaaDoor
