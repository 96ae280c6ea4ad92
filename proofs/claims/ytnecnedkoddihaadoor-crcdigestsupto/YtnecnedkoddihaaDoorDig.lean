/- What crc's digests answer. -/
import Derived.Test.YtnecnedkoddihaaDoorCrc
import Derived.Test.YtnecnedkoddihaaDoorTwo
import Derived.BigQuiet
import Derived.Deep.QuietTactic
import Derived.Deep.RegionWith
import Derived.BigRegion
namespace Go.Proofs.YtnecnedkoddihaaDoor
open Go.ChangeShapes Go.WideShapes Go.ChangeAt Go.RowKit
set_option linter.unusedVariables false
/-- a digest lies in block b -/
def DigAt (w : World) (b s n : Nat) : Prop := w.heap[b]? = some (.cells #[.int .u32 (s : Int), .int .i64 (n : Int)] 47)
theorem DigAt.lt {w : World} {b s n : Nat} (h : DigAt w b s n) : b < w.heap.size := by
  by_cases hh : b < w.heap.size
  · exact hh
  · unfold DigAt at h; rw [Array.getElem?_eq_none (by omega)] at h; cases h
theorem DigAt.sum {w : World} {b s n : Nat} (h : DigAt w b s n) : w.cell? ⟨b, 0, none⟩ = some (.int .u32 (s : Int)) := by rw [cell_of_row w b 0 _ _ _ h]; rfl
theorem DigAt.len {w : World} {b s n : Nat} (h : DigAt w b s n) : w.cell? ⟨b, 1, none⟩ = some (.int .i64 (n : Int)) := by rw [cell_of_row w b 1 _ _ _ h]; rfl
theorem DigAt.free {w : World} {b s n : Nat} (h : DigAt w b s n) (k : Nat) : w.frozen? ⟨b, k, none⟩ = false := frozen_of_row w b k _ _ h
theorem DigAt.keep {w w' : World} {b s n : Nat} (h : DigAt w b s n) (hb : Below w.heap.size w w') : DigAt w' b s n := (hb.block b h.lt).trans h
theorem DigAt.kept {ga gc : Nat} {w w' : World} {b s n : Nat} (h : DigAt w b s n) (hk : Kept ga gc w w') (h1 : b ≠ ga) (h2 : b ≠ gc) : DigAt w' b s n := (hk.block b h.lt h1 h2).trans h
theorem DigAt.put0 {w : World} {b s n : Nat} (h : DigAt w b s n) (v : Nat) : DigAt (w.setCell ⟨b, 0, none⟩ (.int .u32 (v : Int))) b v n := by
  unfold DigAt; rw [heap_setCell_same w b 0 _ _ _ h]; rfl
theorem DigAt.put1 {w : World} {b s n : Nat} (h : DigAt w b s n) (v : Nat) : DigAt (w.setCell ⟨b, 1, none⟩ (.int .i64 (v : Int))) b s v := by
  unfold DigAt; rw [heap_setCell_same w b 1 _ _ _ h]; rfl
theorem kept_set {w : World} {b : Nat} (k : Nat) (v : Value) : Kept b b w (w.setCell ⟨b, k, none⟩ v) :=
  ⟨rfl, rfl, rfl, by simp, fun j _ h _ => heap_setCell_other w ⟨b, k, none⟩ j v h⟩
theorem Kept.trans {ga gc : Nat} {a b c : World} (h : Kept ga gc a b) (k : Kept ga gc b c) : Kept ga gc a c :=
  ⟨k.os.trans h.os, k.tape.trans h.tape, k.output.trans h.output, Nat.le_trans h.size k.size, fun j hj h1 h2 => (k.block j (Nat.lt_of_lt_of_le hj h.size) h1 h2).trans (h.block j hj h1 h2)⟩
theorem Kept.drew {ga gc : Nat} {a b : World} (h : Kept ga gc a b) : Kept ga gc a b.drew := ⟨h.os, h.tape, h.output, h.size, h.block⟩
set_option maxRecDepth 100000 in
set_option maxHeartbeats 2000000 in
theorem dnew_any (w : World) : Calls Tryd.prog 12 #[] w fun r w' => r = .returned (.pointer (some ⟨w.heap.size, 0, none⟩)) ∧ DigAt w' w.heap.size 0 0 ∧ Below w.heap.size w w' ∧ w'.heap.size = w.heap.size + 1 := by
  go_enter Tryd.func12, Tryd.ntmps12
  go_wp2
  go_ret
  refine ⟨rfl, ?_, (Below.refl _ _).alloc (Nat.le_refl _) _, by simp⟩
  unfold DigAt; simp only [World.alloc, Array.getElem?_push]; rw [if_pos trivial]; rfl
set_option maxRecDepth 100000 in
set_option maxHeartbeats 2000000 in
theorem dsum_any (w : World) (b s n : Nat) (h : DigAt w b s n) : Calls Tryd.prog 18 #[.pointer (some ⟨b, 0, none⟩)] w fun r w' => r = .returned (.int .u32 (s : Int)) ∧ w = w' := by
  have h1 := h.sum
  clear h
  go_enter Tryd.func18, Tryd.ntmps18
  go_wp2
  go_ret
  exact ⟨rfl, rfl⟩
set_option maxRecDepth 100000 in
set_option maxHeartbeats 2000000 in
theorem dlen_any (w : World) (b s n : Nat) (h : DigAt w b s n) : Calls Tryd.prog 17 #[.pointer (some ⟨b, 0, none⟩)] w fun r w' => r = .returned (.int .i64 (n : Int)) ∧ w = w' := by
  have h1 := h.len
  clear h
  go_enter Tryd.func17, Tryd.ntmps17
  go_wp2
  go_ret
  exact ⟨rfl, rfl⟩
set_option maxRecDepth 100000 in
set_option maxHeartbeats 2000000 in
theorem dreset_any (w : World) (b s n : Nat) (h : DigAt w b s n) : Calls Tryd.prog 14 #[.pointer (some ⟨b, 0, none⟩)] w fun r w' => r = .returned (.tuple #[]) ∧ DigAt w' b 0 0 ∧ Kept b b w w' := by
  have h1 := h.sum
  have h2 := h.len
  have h3 := h.free 0
  have h4 := h.free 1
  have HD : Hid (DigAt w b s n) := h
  clear h
  go_enter Tryd.func14, Tryd.ntmps14
  go_wp2
  go_end0
  exact ⟨rfl, (HD.out.put0 0).put1 0, (kept_set 0 _).trans (kept_set 1 _)⟩
set_option maxRecDepth 100000 in
set_option maxHeartbeats 2000000 in
theorem dwrite_any (w : World) (b s n : Nat) (l : List Nat) (a : Option Addr) (cap : Nat) (h : DigAt w b s n) (hs : s < 4294967296) (hn : n + l.length ≤ 281474976710656) (hb : Bytes w a l) (ht : Tab w) : Calls Tryd.prog 15 #[.pointer (some ⟨b, 0, none⟩), .slice a l.length cap] w fun r w' => r = .returned (.tuple #[]) ∧ DigAt w' b (Crcm.update s l) (n + l.length) ∧ Kept b b w w' := by
  have h1 := h.sum
  have h2 := h.len
  have h3 := h.free 0
  have h4 := h.free 1
  have HD : Hid (DigAt w b s n) := h
  have HS : Hid (s < 4294967296 ∧ l.length ≤ maxLen ∧ Bytes w a l ∧ Tab w) := ⟨hs, by unfold maxLen; omega, hb, ht⟩
  have hnI : (n : Int) + (l.length : Int) ≤ 281474976710656 := by omega
  obtain ⟨v, hv⟩ : ∃ v, Crcm.update s l = v := ⟨_, rfl⟩
  have HV : Hid (Crcm.update s l = v) := hv
  have hp := h.put0 v
  have HP : Hid (DigAt (w.setCell ⟨b, 0, none⟩ (.int .u32 (v : Int))) b v n) := hp
  have k1 := hp.len
  have k2 := hp.free 1
  rw [hv]
  clear h hp hv hs hb ht hn
  go_enter Tryd.func15, Tryd.ntmps15
  go_wp2_with (go_at_call 22; refine (update_any s l a cap w HS.out.1 HS.out.2.2.1 HS.out.2.1 HS.out.2.2.2).mono ?_; rw [HV.out]; rintro r w1 ⟨rfl, rfl⟩)
  go_end0
  exact ⟨rfl, HP.out.put1 (n + l.length), (kept_set 0 _).trans (kept_set 1 _)⟩
set_option maxRecDepth 100000 in
set_option maxHeartbeats 2000000 in
theorem dwrite_nil (v : Value) (w : World) : Calls Tryd.prog 15 #[.pointer none, v] w fun r w' => r = .returned (.tuple #[]) ∧ w = w' := by
  go_enter Tryd.func15, Tryd.ntmps15
  go_wp2
  first | go_end0 | refine bodyPost_ret (results_none rfl _ _ _) rfl ?_
  exact ⟨rfl, rfl⟩
set_option maxRecDepth 100000 in
set_option maxHeartbeats 2000000 in
theorem dreset_nil (w : World) : Calls Tryd.prog 14 #[.pointer none] w fun r w' => r = .returned (.tuple #[]) ∧ w = w' := by
  go_enter Tryd.func14, Tryd.ntmps14
  go_wp2
  first | go_end0 | refine bodyPost_ret (results_none rfl _ _ _) rfl ?_
  exact ⟨rfl, rfl⟩
set_option maxRecDepth 100000 in
set_option maxHeartbeats 2000000 in
theorem dlen_nil (w : World) : Calls Tryd.prog 17 #[.pointer none] w fun r w' => r = .returned (.int .i64 0) ∧ w = w' := by
  go_enter Tryd.func17, Tryd.ntmps17
  go_wp2
  go_ret
  exact ⟨rfl, rfl⟩
set_option maxRecDepth 100000 in
set_option maxHeartbeats 2000000 in
theorem dsum_nil (w : World) : Calls Tryd.prog 18 #[.pointer none] w fun r w' => r = .returned (.int .u32 0) ∧ w = w' := by
  go_enter Tryd.func18, Tryd.ntmps18
  go_wp2
  go_ret
  exact ⟨rfl, rfl⟩
end Go.Proofs.YtnecnedkoddihaaDoor
