/- What fault.sentinels answers. -/
import Derived.Test.YtdjldbhglaohkaaDoorSen
namespace Go.Proofs.YtdjldbhglaohkaaDoor
open Go.ChangeShapes Go.WideShapes Go.ChangeAt Go.RowKit
set_option maxRecDepth 100000 in
set_option maxHeartbeats 4000000 in
theorem sentinels_any (pa : Nat → Addr) (w : World) (hs : Sen w pa) :
    Calls Tryd.prog 12 #[] w fun e w' => e = .returned (.slice (some ⟨w.heap.size, 0, none⟩) 42 42) ∧ w' = w.alloc (.cells (SN pa) 42) := by
  have v := fun i h => hs.var i h
  have v0 := v 0 (by omega)
  have v1 := v 1 (by omega)
  have v2 := v 2 (by omega)
  have v3 := v 3 (by omega)
  have v4 := v 4 (by omega)
  have v5 := v 5 (by omega)
  have v6 := v 6 (by omega)
  have v7 := v 7 (by omega)
  have v8 := v 8 (by omega)
  have v9 := v 9 (by omega)
  have v10 := v 10 (by omega)
  have v11 := v 11 (by omega)
  have v12 := v 12 (by omega)
  have v13 := v 13 (by omega)
  have v14 := v 14 (by omega)
  have v15 := v 15 (by omega)
  have v16 := v 16 (by omega)
  have v17 := v 17 (by omega)
  have v18 := v 18 (by omega)
  have v19 := v 19 (by omega)
  have v20 := v 20 (by omega)
  have v21 := v 21 (by omega)
  have v22 := v 22 (by omega)
  have v23 := v 23 (by omega)
  have v24 := v 24 (by omega)
  have v25 := v 25 (by omega)
  have v26 := v 26 (by omega)
  have v27 := v 27 (by omega)
  have v28 := v 28 (by omega)
  have v29 := v 29 (by omega)
  have v30 := v 30 (by omega)
  have v31 := v 31 (by omega)
  have v32 := v 32 (by omega)
  have v33 := v 33 (by omega)
  have v34 := v 34 (by omega)
  have v35 := v 35 (by omega)
  have v36 := v 36 (by omega)
  have v37 := v 37 (by omega)
  have v38 := v 38 (by omega)
  have v39 := v 39 (by omega)
  have v40 := v 40 (by omega)
  have v41 := v 41 (by omega)
  clear v hs
  go_enter Tryd.func12, Tryd.ntmps12
  go_wp2
  go_ret
  exact ⟨rfl, rfl⟩
theorem Sen.keep {w w' : World} {pa : Nat → Addr} (h : Sen w pa) (hb : Below w.heap.size w w') : Sen w' pa := by
  have hs := h.size
  have hlt : ∀ i, i < 42 → (pa i).block < w.heap.size := fun i hi => by
    obtain ⟨c, t, hc⟩ := h.blk i hi
    by_cases hh : (pa i).block < w.heap.size
    · exact hh
    · rw [Array.getElem?_eq_none (by omega)] at hc; cases hc
  refine ⟨fun i hi => ?_, fun i hi => ?_, fun i hi => ?_, h.inj, Nat.le_trans hs hb.size⟩
  · rw [hb.cell (p := ⟨i, 0, none⟩) (show i < w.heap.size by omega)]; exact h.var i hi
  · rw [hb.cell (hlt i hi)]; exact h.txt i hi
  · obtain ⟨c, t, hc⟩ := h.blk i hi
    exact ⟨c, t, (hb.block _ (hlt i hi)).trans hc⟩
theorem numS_inj {i j : Nat} (hi : i < 42) (hj : j < 42) (h : numS i = numS j) : i = j := by
  have key : ∀ i j : Fin 42, numS i.val = numS j.val → i = j := by decide +kernel
  exact congrArg Fin.val (key ⟨i, hi⟩ ⟨j, hj⟩ h)
theorem row_num {w : World} {b : Nat} {pa : Nat → Addr} (h : w.heap[b]? = some (.cells (SN pa) 42)) (k : Nat) (hk : k < 42) : w.cell? ⟨b, k * 2, none⟩ = some (.int .i64 (numS k)) := by
  rw [cell_of_row w b (k * 2) _ _ _ h, Nat.mul_comm, SN_num pa k hk]
theorem row_err {w : World} {b : Nat} {pa : Nat → Addr} (h : w.heap[b]? = some (.cells (SN pa) 42)) (k : Nat) (hk : k < 42) : w.cell? ⟨b, k * 2 + 1, none⟩ = some (.iface 59 (.pointer (some (pa k)))) := by
  rw [cell_of_row w b (k * 2 + 1) _ _ _ h, Nat.mul_comm, SN_err pa k hk]
set_option maxRecDepth 100000 in
set_option maxHeartbeats 4000000 in
theorem sentinel_any (pa : Nat → Addr) (e : Int) (w : World) (hs : Sen w pa) :
    Calls Tryd.prog 10 #[.int .i64 e] w fun r w' => ((∃ k, k < 42 ∧ numS k = e ∧ r = .returned (.iface 59 (.pointer (some (pa k))))) ∨ ((∀ k, k < 42 → numS k ≠ e) ∧ r = .returned .nilIface)) ∧ Below w.heap.size w w' := by
  have HS : Hid (Sen w pa) := hs
  clear hs
  go_enter Tryd.func10, Tryd.ntmps10
  go_wp2_with (go_at_call 12; refine (sentinels_any pa w HS.out).mono ?_; rintro r w1 ⟨rfl, hw1⟩; have hrow : w1.heap[w.heap.size]? = some (.cells (SN pa) 42) := (by rw [hw1]; simp only [World.alloc, Array.getElem?_push]; rw [if_pos trivial]); have HROW : Hid (w1.heap[w.heap.size]? = some (.cells (SN pa) 42)) := hrow; have HB : Hid (Below w.heap.size w w1) := (by rw [hw1]; exact (Below.refl _ _).alloc (Nat.le_refl _) _); clear hw1 hrow)
  go_loopw [4, 7] (fun _ vi wr => ∃ k : Nat, k ≤ 42 ∧ vi = .int .i64 k ∧ Hid ((∀ j, j < k → numS j ≠ e) ∧ wr.heap[w.heap.size]? = some (.cells (SN pa) 42) ∧ Below w.heap.size w wr ∧ w.heap.size < wr.heap.size)) (fun _ vi _ => 42 - (intOf vi).toNat)
  case atStart =>
    refine ⟨0, by omega, rfl, fun j hj => by omega, HROW.out, HB.out, ?_⟩
    have h := HROW.out
    by_cases hh : w.heap.size < w1.heap.size
    · exact hh
    · rw [Array.getElem?_eq_none (by omega)] at h; cases h
  case round =>
    obtain ⟨k, hk, rfl, HI⟩ := hrel
    clear HROW HB
    by_cases hkl : k < 42
    · have h1 := row_num HI.out.2.1 k hkl
      have h2 := row_err HI.out.2.1 k hkl
      obtain ⟨N, hN⟩ : ∃ N, numS k = N := ⟨_, rfl⟩
      rw [hN] at h1
      have HNN : Hid (numS k = N) := hN
      have HA : Hid (∀ o : Obj, (wr.alloc o).heap[w.heap.size]? = some (.cells (SN pa) 42) ∧ Below w.heap.size w (wr.alloc o) ∧ w.heap.size < (wr.alloc o).heap.size) := by
        intro o
        refine ⟨?_, HI.out.2.2.1.alloc (Nat.le_of_lt HI.out.2.2.2) o, by simp; have := HI.out.2.2.2; omega⟩
        simp only [World.alloc, Array.getElem?_push]
        rw [if_neg (by have := HI.out.2.2.2; omega)]
        exact HI.out.2.1
      clear hN
      by_cases he : N = e
      · subst he
        go_wp2
        go_ret
        exact ⟨.inl ⟨k, hkl, HNN.out, rfl⟩, (HA.out _).2.1⟩
      · go_wp2
        go_roundw
        case rel => exact ⟨k + 1, by omega, by go_num, fun j hj => by by_cases hj2 : j < k; exact HI.out.1 j hj2; obtain rfl : j = k := (by omega); rw [HNN.out]; exact he, HA.out _⟩
        case measure => simp [intOf]; omega
    · obtain rfl : k = 42 := by omega
      go_wp2
      go_ret
      exact ⟨.inr ⟨HI.out.1, rfl⟩, HI.out.2.2.1⟩
end Go.Proofs.YtdjldbhglaohkaaDoor
