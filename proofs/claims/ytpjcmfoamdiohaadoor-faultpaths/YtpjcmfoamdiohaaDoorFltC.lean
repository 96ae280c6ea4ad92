/- What fault.Code answers. -/
import Derived.Test.YtpjcmfoamdiohaaDoorFltG
namespace Go.Proofs.YtpjcmfoamdiohaaDoor
open Go.ChangeShapes Go.WideShapes Go.ChangeAt Go.RowKit
set_option linter.unusedVariables false
set_option maxRecDepth 100000 in
set_option maxHeartbeats 4000000 in
theorem code_nil (w : World) : Calls Tryd.prog 17 #[.nilIface] w fun r w' => r = .returned (.int .i64 0) ∧ w = w' := by
  go_enter Tryd.func17, Tryd.ntmps17
  go_wp2
  go_ret
  exact ⟨rfl, rfl⟩
theorem new2 (w : World) (x y : Value) (T : TypeId) : (w.alloc (.cells #[x, y] T)).cell? ⟨w.heap.size, 0, none⟩ = some x := by
  have e : (w.alloc (.cells #[x, y] T)).heap[w.heap.size]? = some (.cells #[x, y] T) := by
    simp only [World.alloc, Array.getElem?_push]; rw [if_pos trivial]
  rw [cell_of_row _ _ 0 _ _ _ e]; rfl
/-- the number of the sentinel at a, 1 where it is none of ours -/
def CodeIs (pa : Nat → Addr) (a : Addr) (N : Int) : Prop := (∃ k, k < 42 ∧ a = pa k ∧ N = numS k) ∨ ((∀ k, k < 42 → a ≠ pa k) ∧ N = 1)
set_option maxRecDepth 100000 in
set_option maxHeartbeats 4000000 in
theorem code_any (pa : Nat → Addr) (a : Addr) (ops : List ByteArray) (v : Value) (w : World) (hs : Sen w pa) (hc : Ch w a ops v) (hq : ∀ k, k < 42 → ∀ w', Below w.heap.size w w' → (binOp .eql 30 (senV a) (senV (pa k))).run Tryd.prog w' = .ok (.bool (decide (a = pa k))) w') :
    Calls Tryd.prog 17 #[v] w fun r w' => ∃ N, r = .returned (.int .i64 N) ∧ CodeIs pa a N ∧ Below w.heap.size w w' := by
  have HS : Hid (Sen w pa) := hs
  have HC : Hid (Ch w a ops v) := hc
  have HQ : Hid (∀ k, k < 42 → ∀ w', Below w.heap.size w w' → (binOp .eql 30 (senV a) (senV (pa k))).run Tryd.prog w' = .ok (.bool (decide (a = pa k))) w') := hq
  have hin := hc.form
  clear hs hc hq
  rcases hin with ⟨b2, rfl⟩ | rfl
  · go_enter Tryd.func17, Tryd.ntmps17
    go_wp2_with (go_at_call 22; refine (sentinels_any pa w HS.out).mono ?_; rintro r w1 ⟨rfl, hw1⟩; have hrow : w1.heap[w.heap.size]? = some (.cells (SN pa) 55) := (by rw [hw1]; simp only [World.alloc, Array.getElem?_push]; rw [if_pos trivial]); have HROW : Hid (w1.heap[w.heap.size]? = some (.cells (SN pa) 55)) := hrow; have HB : Hid (Below w.heap.size w w1) := (by rw [hw1]; exact (Below.refl _ _).alloc (Nat.le_refl _) _); clear hw1 hrow)
    go_loopw [4, 9] (fun _ vi wr => ∃ k : Nat, k ≤ 42 ∧ vi = .int .i64 k ∧ Hid ((∀ j, j < k → a ≠ pa j) ∧ wr.heap[w.heap.size]? = some (.cells (SN pa) 55) ∧ Below w.heap.size w wr ∧ w.heap.size < wr.heap.size)) (fun _ vi _ => 42 - (intOf vi).toNat)
    case atStart =>
      refine ⟨0, by omega, rfl, fun j hj => by omega, HROW.out, HB.out, ?_⟩
      have h := HROW.out
      by_cases hh : w.heap.size < w1.heap.size
      · exact hh
      · rw [Array.getElem?_eq_none (by omega)] at h; cases h
    case round =>
      obtain ⟨k, hk, rfl, HI⟩ := hrel
      clear HROW HB
      by_cases hkl : k < 42
      · have h1 := row_num HI.out.2.1 k hkl
        have h2 := row_err HI.out.2.1 k hkl
        obtain ⟨N, hN⟩ : ∃ N, numS k = N := ⟨_, rfl⟩
        rw [hN] at h1
        have HNN : Hid (numS k = N) := hN
        have HA : Hid (∀ o : Obj, (wr.alloc o).heap[w.heap.size]? = some (.cells (SN pa) 55) ∧ Below w.heap.size w (wr.alloc o) ∧ w.heap.size < (wr.alloc o).heap.size) := by
          intro o
          refine ⟨?_, HI.out.2.2.1.alloc (Nat.le_of_lt HI.out.2.2.2) o, by simp; have := HI.out.2.2.2; omega⟩
          simp only [World.alloc, Array.getElem?_push]
          rw [if_neg (by have := HI.out.2.2.2; omega)]
          exact HI.out.2.1
        clear hN
        have HNEW : Hid ((wr.alloc (.cells #[.int .i64 N, senV (pa k)] 55)).cell? ⟨wr.heap.size, 0, none⟩ = some (.int .i64 N)) := new2 wr _ _ _
        have HA2 : Hid ((wr.alloc (.cells #[.int .i64 N, senV (pa k)] 55)).heap[w.heap.size]? = some (.cells (SN pa) 55) ∧ Below w.heap.size w (wr.alloc (.cells #[.int .i64 N, senV (pa k)] 55)) ∧ w.heap.size < (wr.alloc (.cells #[.int .i64 N, senV (pa k)] 55)).heap.size ∧ wr.heap.size < (wr.alloc (.cells #[.int .i64 N, senV (pa k)] 55)).heap.size) := ⟨(HA.out _).1, (HA.out _).2.1, (HA.out _).2.2, by simp⟩
        by_cases hak : a = pa k
        · have HAK : Hid (a = pa k) := hak
          clear hak
          go_wp2_with (go_at_call 23; refine (holds_any a (pa k) ops _ _ (HC.out.keep HA2.out.2.1) (fun w' hb => HQ.out k hkl w' (below_nx HA2.out.2.1 hb))).mono ?_; rw [decide_eq_true HAK.out]; rintro r w5 ⟨rfl, hb5⟩; have hce : w5.cell? ⟨wr.heap.size, 0, none⟩ = some (.int .i64 N) := (hb5.cell (p := ⟨wr.heap.size, 0, none⟩) HA2.out.2.2.2).trans HNEW.out; have HB5 : Hid (Below w.heap.size w w5 ∧ w5.heap[w.heap.size]? = some (.cells (SN pa) 55) ∧ w.heap.size < w5.heap.size) := ⟨below_nx HA2.out.2.1 hb5, (hb5.block _ HA2.out.2.2.1).trans HA2.out.1, Nat.lt_of_lt_of_le HA2.out.2.2.1 hb5.size⟩; clear hb5)
          go_ret
          exact ⟨N, rfl, .inl ⟨k, hkl, HAK.out, HNN.out.symm⟩, HB5.out.1⟩
        · go_wp2_with (go_at_call 23; refine (holds_any a (pa k) ops _ _ (HC.out.keep HA2.out.2.1) (fun w' hb => HQ.out k hkl w' (below_nx HA2.out.2.1 hb))).mono ?_; rw [decide_eq_false hak]; rintro r w5 ⟨rfl, hb5⟩; have hce : w5.cell? ⟨wr.heap.size, 0, none⟩ = some (.int .i64 N) := (hb5.cell (p := ⟨wr.heap.size, 0, none⟩) HA2.out.2.2.2).trans HNEW.out; have HB5 : Hid (Below w.heap.size w w5 ∧ w5.heap[w.heap.size]? = some (.cells (SN pa) 55) ∧ w.heap.size < w5.heap.size) := ⟨below_nx HA2.out.2.1 hb5, (hb5.block _ HA2.out.2.2.1).trans HA2.out.1, Nat.lt_of_lt_of_le HA2.out.2.2.1 hb5.size⟩; clear hb5)
          go_roundw
          case rel => exact ⟨k + 1, by omega, by go_num, fun j hj => by by_cases hj2 : j < k; exact HI.out.1 j hj2; obtain rfl : j = k := (by omega); exact hak, HB5.out.2.1, HB5.out.1, HB5.out.2.2⟩
          case measure => simp [intOf]; omega
      · obtain rfl : k = 42 := by omega
        go_wp2
        go_ret
        exact ⟨1, rfl, .inr ⟨HI.out.1, rfl⟩, HI.out.2.2.1⟩
  · go_enter Tryd.func17, Tryd.ntmps17
    go_wp2_with (go_at_call 22; refine (sentinels_any pa w HS.out).mono ?_; rintro r w1 ⟨rfl, hw1⟩; have hrow : w1.heap[w.heap.size]? = some (.cells (SN pa) 55) := (by rw [hw1]; simp only [World.alloc, Array.getElem?_push]; rw [if_pos trivial]); have HROW : Hid (w1.heap[w.heap.size]? = some (.cells (SN pa) 55)) := hrow; have HB : Hid (Below w.heap.size w w1) := (by rw [hw1]; exact (Below.refl _ _).alloc (Nat.le_refl _) _); clear hw1 hrow)
    go_loopw [4, 9] (fun _ vi wr => ∃ k : Nat, k ≤ 42 ∧ vi = .int .i64 k ∧ Hid ((∀ j, j < k → a ≠ pa j) ∧ wr.heap[w.heap.size]? = some (.cells (SN pa) 55) ∧ Below w.heap.size w wr ∧ w.heap.size < wr.heap.size)) (fun _ vi _ => 42 - (intOf vi).toNat)
    case atStart =>
      refine ⟨0, by omega, rfl, fun j hj => by omega, HROW.out, HB.out, ?_⟩
      have h := HROW.out
      by_cases hh : w.heap.size < w1.heap.size
      · exact hh
      · rw [Array.getElem?_eq_none (by omega)] at h; cases h
    case round =>
      obtain ⟨k, hk, rfl, HI⟩ := hrel
      clear HROW HB
      by_cases hkl : k < 42
      · have h1 := row_num HI.out.2.1 k hkl
        have h2 := row_err HI.out.2.1 k hkl
        obtain ⟨N, hN⟩ : ∃ N, numS k = N := ⟨_, rfl⟩
        rw [hN] at h1
        have HNN : Hid (numS k = N) := hN
        have HA : Hid (∀ o : Obj, (wr.alloc o).heap[w.heap.size]? = some (.cells (SN pa) 55) ∧ Below w.heap.size w (wr.alloc o) ∧ w.heap.size < (wr.alloc o).heap.size) := by
          intro o
          refine ⟨?_, HI.out.2.2.1.alloc (Nat.le_of_lt HI.out.2.2.2) o, by simp; have := HI.out.2.2.2; omega⟩
          simp only [World.alloc, Array.getElem?_push]
          rw [if_neg (by have := HI.out.2.2.2; omega)]
          exact HI.out.2.1
        clear hN
        have HNEW : Hid ((wr.alloc (.cells #[.int .i64 N, senV (pa k)] 55)).cell? ⟨wr.heap.size, 0, none⟩ = some (.int .i64 N)) := new2 wr _ _ _
        have HA2 : Hid ((wr.alloc (.cells #[.int .i64 N, senV (pa k)] 55)).heap[w.heap.size]? = some (.cells (SN pa) 55) ∧ Below w.heap.size w (wr.alloc (.cells #[.int .i64 N, senV (pa k)] 55)) ∧ w.heap.size < (wr.alloc (.cells #[.int .i64 N, senV (pa k)] 55)).heap.size ∧ wr.heap.size < (wr.alloc (.cells #[.int .i64 N, senV (pa k)] 55)).heap.size) := ⟨(HA.out _).1, (HA.out _).2.1, (HA.out _).2.2, by simp⟩
        by_cases hak : a = pa k
        · have HAK : Hid (a = pa k) := hak
          clear hak
          go_wp2_with (go_at_call 23; refine (holds_any a (pa k) ops _ _ (HC.out.keep HA2.out.2.1) (fun w' hb => HQ.out k hkl w' (below_nx HA2.out.2.1 hb))).mono ?_; rw [decide_eq_true HAK.out]; rintro r w5 ⟨rfl, hb5⟩; have hce : w5.cell? ⟨wr.heap.size, 0, none⟩ = some (.int .i64 N) := (hb5.cell (p := ⟨wr.heap.size, 0, none⟩) HA2.out.2.2.2).trans HNEW.out; have HB5 : Hid (Below w.heap.size w w5 ∧ w5.heap[w.heap.size]? = some (.cells (SN pa) 55) ∧ w.heap.size < w5.heap.size) := ⟨below_nx HA2.out.2.1 hb5, (hb5.block _ HA2.out.2.2.1).trans HA2.out.1, Nat.lt_of_lt_of_le HA2.out.2.2.1 hb5.size⟩; clear hb5)
          go_ret
          exact ⟨N, rfl, .inl ⟨k, hkl, HAK.out, HNN.out.symm⟩, HB5.out.1⟩
        · go_wp2_with (go_at_call 23; refine (holds_any a (pa k) ops _ _ (HC.out.keep HA2.out.2.1) (fun w' hb => HQ.out k hkl w' (below_nx HA2.out.2.1 hb))).mono ?_; rw [decide_eq_false hak]; rintro r w5 ⟨rfl, hb5⟩; have hce : w5.cell? ⟨wr.heap.size, 0, none⟩ = some (.int .i64 N) := (hb5.cell (p := ⟨wr.heap.size, 0, none⟩) HA2.out.2.2.2).trans HNEW.out; have HB5 : Hid (Below w.heap.size w w5 ∧ w5.heap[w.heap.size]? = some (.cells (SN pa) 55) ∧ w.heap.size < w5.heap.size) := ⟨below_nx HA2.out.2.1 hb5, (hb5.block _ HA2.out.2.2.1).trans HA2.out.1, Nat.lt_of_lt_of_le HA2.out.2.2.1 hb5.size⟩; clear hb5)
          go_roundw
          case rel => exact ⟨k + 1, by omega, by go_num, fun j hj => by by_cases hj2 : j < k; exact HI.out.1 j hj2; obtain rfl : j = k := (by omega); exact hak, HB5.out.2.1, HB5.out.1, HB5.out.2.2⟩
          case measure => simp [intOf]; omega
      · obtain rfl : k = 42 := by omega
        go_wp2
        go_ret
        exact ⟨1, rfl, .inr ⟨HI.out.1, rfl⟩, HI.out.2.2.1⟩
end Go.Proofs.YtpjcmfoamdiohaaDoor
