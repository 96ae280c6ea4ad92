/- What the reference's Of, Cmp and Fits answer. -/
import Derived.Test.YtblfmfanfpohbaaGreatLong
namespace Go.Proofs.YtblfmfanfpohbaaGreat
open Go.ChangeShapes Go.WideShapes Go.ChangeAt Go.RowKit
theorem lay2 (w : World) (c : Bool) : LongAt ((w.alloc (.cells (LA false fun _ => 0) 61)).alloc (.cells (LA c fun _ => 0) 61)) w.heap.size false (fun _ => 0) ∧ LongAt ((w.alloc (.cells (LA false fun _ => 0) 61)).alloc (.cells (LA c fun _ => 0) 61)) (w.heap.size + 1) c (fun _ => 0) ∧ Below w.heap.size w ((w.alloc (.cells (LA false fun _ => 0) 61)).alloc (.cells (LA c fun _ => 0) 61)) := by
  refine ⟨?_, ?_, bel2 _ _ _⟩ <;> (unfold LongAt; simp only [World.alloc, Array.getElem?_push, Array.size_push]; simp)
theorem of_step {u U Z P : Nat} (h : Z + u * P = U) : Z + u % 65536 * P + u / 65536 * (P * 65536) = U := by
  have e2 : (u % 65536 + u / 65536 * 65536) * P = u * P := by rw [show u % 65536 + u / 65536 * 65536 = u from by omega]
  rw [Nat.add_mul, Nat.mul_assoc, Nat.mul_comm 65536 P] at e2
  omega
theorem of_begin (u : Nat) : V (fun _ => 0) 0 + u * 65536 ^ 0 = u := by show 0 + u * 1 = u; omega
theorem of_end {v u Z P : Nat} (h : Z + v * P = u) (hu : u < P) : Z = u := by
  rcases Nat.eq_zero_or_pos v with rfl | hv
  · omega
  · have : 1 * P ≤ v * P := Nat.mul_le_mul_right _ hv
    omega
theorem V_top {z : Nat → Nat} {n : Nat} (m : Nat) (h : ∀ i, n ≤ i → z i = 0) (hm : n ≤ m) : V z m = V z n := by
  obtain ⟨k, rfl⟩ : ∃ k, m = n + k := ⟨m - n, by omega⟩
  induction k with
  | zero => rfl
  | succ k ih => rw [← Nat.add_assoc, V, ih (by omega), h _ (by omega)]; omega
set_option maxRecDepth 20000 in
set_option maxHeartbeats 1000000 in
theorem of_walk (a : Int) (s : Bool) (u : Nat) (w : World) (h0 : -9223372036854775808 ≤ a) (h1 : a ≤ 9223372036854775807) (hu : Hid (u = a.natAbs)) (hs : (a < 0 ∧ s = true) ∨ (0 ≤ a ∧ s = false)) :
    Calls Tryz.prog 36 #[.int .i64 a] w fun e w' => ∃ z, e = .returned (.agg (LA s z)) ∧ Dig z ∧ V z 16 = u ∧ Below w.heap.size w w' := by
  have hu9 : u < 18446744073709551616 := by have := hu.out; omega
  rcases hs with ⟨ha, rfl⟩ | ⟨ha, rfl⟩
  · go_enter Tryz.func36, Tryz.ntmps36
    go_wp2
    go_loopw [4, 5] (fun vu vi wr => ∃ (k v : Nat) (z : Nat → Nat), k ≤ 4 ∧ vi = .int .i64 k ∧ vu = .int .u64 v ∧ v < 18446744073709551616 ∧ Hid (Dig z ∧ V z k + v * 65536 ^ k = u ∧ ∀ i, k ≤ i → z i = 0) ∧ Hid (LongAt wr w.heap.size false (fun _ => 0) ∧ LongAt wr (w.heap.size + 1) true z ∧ Below w.heap.size w wr)) (fun _ vi _ => 4 - (intOf vi).toNat)
    case atStart => exact ⟨0, u, fun _ => 0, Nat.zero_le _, rfl, congrArg _ (by have := hu.out; omega), hu9, ⟨fun _ => by simp, of_begin u, fun _ _ => rfl⟩, lay2 w true⟩
    case round =>
      obtain ⟨k, v, z, hk, rfl, rfl, hv, HI, HL⟩ := hrel
      by_cases hk4 : k < 4
      · have hcz := HL.out.2.1.digit k (by omega)
        have hfz := HL.out.2.1.free (1 + k)
        go_wp2
        go_round
        case rel =>
          obtain ⟨i1, i2, i3⟩ := HI.out
          obtain ⟨l1, l2, l3⟩ := HL.out
          refine ⟨k + 1, v / 65536, upd z k (v % 65536), by omega, by go_num, ?_, by omega, ⟨i1.upd _ _ (by omega), ?_, ?_⟩, ⟨?_, ?_, ?_⟩⟩
          · exact congrArg _ (by omega)
          · rw [V_upd_succ, Nat.pow_succ]; exact of_step i2
          · intro i hi; unfold upd; rw [if_neg (by omega)]; exact i3 i (by omega)
          · exact l1.other _ _ (by simp)
          · exact l2.put k (v % 65536) (by omega)
          · exact l3.setCell (by simp) _
        case measure => first | (simp [intOf]; done) | (simp [intOf]; omega)
      · obtain rfl : k = 4 := by omega
        have HZ : Hid (Dig z ∧ V z 16 = u) := by
          obtain ⟨i1, i2, i3⟩ := HI.out
          exact ⟨i1, by rw [V_top 16 i3 (by omega)]; exact of_end i2 hu9⟩
        go_wp2_with (first
          | ((with_reducible refine guard_load 61 ?_); refine wpList_load_long rfl _ rfl HL.out.2.1 rfl ?_)
          | ((with_reducible refine guard_store 61 ?_); refine wpList_store_long rfl _ _ rfl HL.out.1 rfl rfl ?_; intro w2 hL2 hB2))
        refine bodyPost_ret (results_cell rfl _ _ _ _ rfl hL2.loadVar) rfl ?_
        exact ⟨z, rfl, HZ.out.1, HZ.out.2, hB2 _ _ HL.out.2.2 (by omega)⟩
  · have e1 : (u : Int) = a := by have := hu.out; omega
    go_enter Tryz.func36, Tryz.ntmps36
    go_wp2
    go_loopw [4, 5] (fun vu vi wr => ∃ (k v : Nat) (z : Nat → Nat), k ≤ 4 ∧ vi = .int .i64 k ∧ vu = .int .u64 v ∧ v < 18446744073709551616 ∧ Hid (Dig z ∧ V z k + v * 65536 ^ k = u ∧ ∀ i, k ≤ i → z i = 0) ∧ Hid (LongAt wr w.heap.size false (fun _ => 0) ∧ LongAt wr (w.heap.size + 1) false z ∧ Below w.heap.size w wr)) (fun _ vi _ => 4 - (intOf vi).toNat)
    case atStart => exact ⟨0, u, fun _ => 0, Nat.zero_le _, rfl, by rw [e1], hu9, ⟨fun _ => by simp, of_begin u, fun _ _ => rfl⟩, lay2 w false⟩
    case round =>
      obtain ⟨k, v, z, hk, rfl, rfl, hv, HI, HL⟩ := hrel
      by_cases hk4 : k < 4
      · have hcz := HL.out.2.1.digit k (by omega)
        have hfz := HL.out.2.1.free (1 + k)
        go_wp2
        go_round
        case rel =>
          obtain ⟨i1, i2, i3⟩ := HI.out
          obtain ⟨l1, l2, l3⟩ := HL.out
          refine ⟨k + 1, v / 65536, upd z k (v % 65536), by omega, by go_num, ?_, by omega, ⟨i1.upd _ _ (by omega), ?_, ?_⟩, ⟨?_, ?_, ?_⟩⟩
          · exact congrArg _ (by omega)
          · rw [V_upd_succ, Nat.pow_succ]; exact of_step i2
          · intro i hi; unfold upd; rw [if_neg (by omega)]; exact i3 i (by omega)
          · exact l1.other _ _ (by simp)
          · exact l2.put k (v % 65536) (by omega)
          · exact l3.setCell (by simp) _
        case measure => first | (simp [intOf]; done) | (simp [intOf]; omega)
      · obtain rfl : k = 4 := by omega
        have HZ : Hid (Dig z ∧ V z 16 = u) := by
          obtain ⟨i1, i2, i3⟩ := HI.out
          exact ⟨i1, by rw [V_top 16 i3 (by omega)]; exact of_end i2 hu9⟩
        go_wp2_with (first
          | ((with_reducible refine guard_load 61 ?_); refine wpList_load_long rfl _ rfl HL.out.2.1 rfl ?_)
          | ((with_reducible refine guard_store 61 ?_); refine wpList_store_long rfl _ _ rfl HL.out.1 rfl rfl ?_; intro w2 hL2 hB2))
        refine bodyPost_ret (results_cell rfl _ _ _ _ rfl hL2.loadVar) rfl ?_
        exact ⟨z, rfl, HZ.out.1, HZ.out.2, hB2 _ _ HL.out.2.2 (by omega)⟩
theorem of_any (a : Int) (w : World) (h : inI a) : Calls Tryz.prog 36 #[.int .i64 a] w fun e w' => ∃ z, e = .returned (.agg (LA (decide (a < 0)) z)) ∧ Dig z ∧ V z 16 = a.natAbs ∧ Below w.heap.size w w' := by
  refine of_walk a _ _ w h.1 h.2 rfl ?_
  by_cases ha : a < 0
  · exact .inl ⟨ha, by simp [ha]⟩
  · exact .inr ⟨by omega, by simp [ha]⟩
end Go.Proofs.YtblfmfanfpohbaaGreat
