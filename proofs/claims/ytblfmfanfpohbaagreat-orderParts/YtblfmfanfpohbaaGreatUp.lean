/- What the reference's up and down answer. -/
import Derived.Test.YtblfmfanfpohbaaGreatLong
namespace Go.Proofs.YtblfmfanfpohbaaGreat
open Go.ChangeShapes Go.WideShapes Go.ChangeAt Go.RowKit
theorem up_step {q xk yk Z X Y P : Nat} (h : Z + q * P = X + Y) : Z + (xk + yk + q) % 65536 * P + (xk + yk + q) / 65536 * (P * 65536) = X + xk * P + (Y + yk * P) := by
  have e := Nat.div_add_mod (xk + yk + q) 65536
  have e2 : ((xk + yk + q) % 65536 + (xk + yk + q) / 65536 * 65536) * P = (xk + yk + q) * P := by rw [show (xk + yk + q) % 65536 + (xk + yk + q) / 65536 * 65536 = xk + yk + q from by omega]
  rw [Nat.add_mul, Nat.mul_assoc, Nat.mul_comm 65536 P, Nat.add_mul, Nat.add_mul] at e2
  omega
theorem up_end {q A S P : Nat} (hq : q ≤ 1) (h : A + q * P = S) (hS : S < P) : A = S := by
  rcases (show q = 0 ∨ q = 1 by omega) with rfl | rfl <;> omega
set_option maxRecDepth 20000 in
set_option maxHeartbeats 1000000 in
theorem up_any (b c : Bool) (x y : Nat → Nat) (w : World) (hx : Dig x) (hy : Dig y) (hs : V x 16 + V y 16 < 65536 ^ 16) :
    Calls Tryz.prog 78 #[.agg (LA b x), .agg (LA c y)] w fun e w' => ∃ z, e = .returned (.agg (LA b z)) ∧ Dig z ∧ V z 16 = V x 16 + V y 16 ∧ Below w.heap.size w w' := by
  obtain ⟨X, hX⟩ : ∃ X, LA b x = X := ⟨_, rfl⟩
  obtain ⟨Y, hY⟩ : ∃ Y, LA c y = Y := ⟨_, rfl⟩
  have HX : Hid (_ = _) := hX
  have HY : Hid (_ = _) := hY
  have HD : Hid (Dig x ∧ Dig y ∧ V x 16 + V y 16 < 65536 ^ 16) := ⟨hx, hy, hs⟩
  rw [hX, hY]
  have hsx : X.size = 17 := by rw [← hX]; rfl
  have hsy : Y.size = 17 := by rw [← hY]; rfl
  have hX0 : X[0] = .bool b := by subst hX; rfl
  clear hX hY hx hy hs
  go_enter Tryz.func78, Tryz.ntmps78
  go_wp2
  go_loopw [6, 7, 8] (fun vc vi vs wr => ∃ (k q : Nat) (z : Nat → Nat), k ≤ 16 ∧ vi = .int .i64 k ∧ vc = .int .u64 q ∧ Hid (q ≤ 1 ∧ Dig z ∧ V z k + q * 65536 ^ k = V x k + V y k) ∧ Hid (LongAt wr w.heap.size b x ∧ LongAt wr (w.heap.size + 1) c y ∧ (∃ d, LongAt wr (w.heap.size + 1 + 1) false d) ∧ LongAt wr (w.heap.size + 1 + 1 + 1) b z ∧ Below w.heap.size w wr)) (fun _ vi _ _ => 16 - (intOf vi).toNat)
  case atStart => exact ⟨0, 0, fun _ => 0, Nat.zero_le _, rfl, rfl, ⟨by omega, fun _ => by simp, rfl⟩, by rw [← HX.out, ← HY.out]; exact lay4 w b c x y⟩
  case round =>
    obtain ⟨k, q, z, hk, rfl, rfl, HI, HL⟩ := hrel
    by_cases hk16 : k < 16
    · have hcx := HL.out.1.digit k hk16
      have hcy := HL.out.2.1.digit k hk16
      have hcz := HL.out.2.2.2.1.digit k hk16
      have hfz := HL.out.2.2.2.1.free (1 + k)
      have b1 := HD.out.1 k
      have b2 := HD.out.2.1 k
      have b3 := HI.out.1
      obtain ⟨xk, exk⟩ : ∃ v, x k = v := ⟨_, rfl⟩
      obtain ⟨yk, eyk⟩ : ∃ v, y k = v := ⟨_, rfl⟩
      obtain ⟨zk, ezk⟩ : ∃ v, z k = v := ⟨_, rfl⟩
      rw [exk] at hcx b1
      rw [eyk] at hcy b2
      rw [ezk] at hcz
      have HE : Hid (x k = xk ∧ y k = yk) := ⟨exk, eyk⟩
      clear exk eyk ezk
      go_wp2
      go_quiet (fail)
      go_wp2
      go_round
      case rel =>
        obtain ⟨i1, i2, i3⟩ := HI.out
        obtain ⟨l1, l2, ⟨d, l3⟩, l4, l5⟩ := HL.out
        refine ⟨k + 1, (xk + yk + q) / 65536, upd z k ((xk + yk + q) % 65536), by omega, by go_num, ?_, ⟨by omega, i2.upd _ _ (by omega), ?_⟩, ⟨?_, ?_, ⟨d, ?_⟩, ?_, ?_⟩⟩
        · exact congrArg _ (by omega)
        · rw [V_upd_succ, V, V, HE.out.1, HE.out.2, Nat.pow_succ]; exact up_step i3
        · exact (l1.drewN nq).other _ _ (by simp; omega)
        · exact (l2.drewN nq).other _ _ (by simp)
        · exact (l3.drewN nq).other _ _ (by simp)
        · exact (l4.drewN nq).put k ((xk + yk + q) % 65536) hk16
        · exact (below_drewN l5 nq).setCell (by simp; omega) _
      case measure => first | (simp [intOf]; done) | (simp [intOf]; omega)
    · obtain rfl : k = 16 := by omega
      obtain ⟨l1, l2, ⟨d, l3⟩, l4, l5⟩ := HL.out
      have HZ : Hid (Dig z ∧ V z 16 = V x 16 + V y 16) := by
        obtain ⟨i1, i2, i3⟩ := HI.out
        have := HD.out.2.2
        refine ⟨i2, ?_⟩
        exact up_end i1 i3 this
      have HL2 : Hid (_ ∧ _ ∧ _) := (⟨l3, l4, l5⟩ : _ ∧ _ ∧ _)
      clear l1 l2 l3 l4 l5
      go_wp2_with (first
        | ((with_reducible refine guard_load 61 ?_); refine wpList_load_long rfl _ rfl HL2.out.2.1 rfl ?_)
        | ((with_reducible refine guard_store 61 ?_); refine wpList_store_long rfl _ _ rfl HL2.out.1 rfl rfl ?_; intro w2 hL2 hB2))
      refine bodyPost_ret (results_cell rfl _ _ _ _ rfl hL2.loadVar) rfl ?_
      exact ⟨z, rfl, HZ.out.1, HZ.out.2, hB2 _ _ HL2.out.2.2 (by omega)⟩
theorem down_step {q xk yk Z X Y P : Nat} (hx : xk < 65536) (hy : yk < 65536) (hq : q ≤ 1) (h : Z + Y = X + q * P) : Z + (xk + 65536 - yk - q) % 65536 * P + (Y + yk * P) = X + xk * P + (1 - (xk + 65536 - yk - q) / 65536) * (P * 65536) := by
  have e2 : ((xk + 65536 - yk - q) % 65536 + yk + q) * P = (xk + (1 - (xk + 65536 - yk - q) / 65536) * 65536) * P := by
    rw [show (xk + 65536 - yk - q) % 65536 + yk + q = xk + (1 - (xk + 65536 - yk - q) / 65536) * 65536 from by omega]
  rw [Nat.add_mul, Nat.add_mul, Nat.add_mul, Nat.mul_assoc (1 - _) 65536 P, Nat.mul_comm 65536 P] at e2
  omega
theorem down_end {q A B S P : Nat} (hq : q ≤ 1) (h : A + B = S + q * P) (hS : B ≤ S) (hA : A < P) : A + B = S := by
  rcases (show q = 0 ∨ q = 1 by omega) with rfl | rfl <;> omega
set_option maxRecDepth 20000 in
set_option maxHeartbeats 1000000 in
theorem down_any (b c : Bool) (x y : Nat → Nat) (w : World) (hx : Dig x) (hy : Dig y) (hs : V y 16 ≤ V x 16) :
    Calls Tryz.prog 79 #[.agg (LA b x), .agg (LA c y)] w fun e w' => ∃ z, e = .returned (.agg (LA b z)) ∧ Dig z ∧ V z 16 + V y 16 = V x 16 ∧ Below w.heap.size w w' := by
  obtain ⟨X, hX⟩ : ∃ X, LA b x = X := ⟨_, rfl⟩
  obtain ⟨Y, hY⟩ : ∃ Y, LA c y = Y := ⟨_, rfl⟩
  have HX : Hid (_ = _) := hX
  have HY : Hid (_ = _) := hY
  have HD : Hid (Dig x ∧ Dig y ∧ V y 16 ≤ V x 16) := ⟨hx, hy, hs⟩
  rw [hX, hY]
  have hsx : X.size = 17 := by rw [← hX]; rfl
  have hsy : Y.size = 17 := by rw [← hY]; rfl
  have hX0 : X[0] = .bool b := by subst hX; rfl
  clear hX hY hx hy hs
  go_enter Tryz.func79, Tryz.ntmps79
  go_wp2
  go_loopw [6, 7, 8] (fun vc vi vs wr => ∃ (k q : Nat) (z : Nat → Nat), k ≤ 16 ∧ vi = .int .i64 k ∧ vc = .int .u64 q ∧ Hid (q ≤ 1 ∧ Dig z ∧ V z k + V y k = V x k + q * 65536 ^ k) ∧ Hid (LongAt wr w.heap.size b x ∧ LongAt wr (w.heap.size + 1) c y ∧ (∃ d, LongAt wr (w.heap.size + 1 + 1) false d) ∧ LongAt wr (w.heap.size + 1 + 1 + 1) b z ∧ Below w.heap.size w wr)) (fun _ vi _ _ => 16 - (intOf vi).toNat)
  case atStart => exact ⟨0, 0, fun _ => 0, Nat.zero_le _, rfl, rfl, ⟨by omega, fun _ => by simp, rfl⟩, by rw [← HX.out, ← HY.out]; exact lay4 w b c x y⟩
  case round =>
    obtain ⟨k, q, z, hk, rfl, rfl, HI, HL⟩ := hrel
    by_cases hk16 : k < 16
    · have hcx := HL.out.1.digit k hk16
      have hcy := HL.out.2.1.digit k hk16
      have hcz := HL.out.2.2.2.1.digit k hk16
      have hfz := HL.out.2.2.2.1.free (1 + k)
      have b1 := HD.out.1 k
      have b2 := HD.out.2.1 k
      have b3 := HI.out.1
      obtain ⟨xk, exk⟩ : ∃ v, x k = v := ⟨_, rfl⟩
      obtain ⟨yk, eyk⟩ : ∃ v, y k = v := ⟨_, rfl⟩
      obtain ⟨zk, ezk⟩ : ∃ v, z k = v := ⟨_, rfl⟩
      rw [exk] at hcx b1
      rw [eyk] at hcy b2
      rw [ezk] at hcz
      have HE : Hid (x k = xk ∧ y k = yk) := ⟨exk, eyk⟩
      clear exk eyk ezk
      go_wp2
      go_quiet (fail)
      go_wp2
      go_round
      case rel =>
        obtain ⟨i1, i2, i3⟩ := HI.out
        obtain ⟨l1, l2, ⟨d, l3⟩, l4, l5⟩ := HL.out
        refine ⟨k + 1, 1 - (xk + 65536 - yk - q) / 65536, upd z k ((xk + 65536 - yk - q) % 65536), by omega, by go_num, ?_, ⟨by omega, i2.upd _ _ (by omega), ?_⟩, ⟨?_, ?_, ⟨d, ?_⟩, ?_, ?_⟩⟩
        · exact congrArg _ (by omega)
        · rw [V_upd_succ, V, V, HE.out.1, HE.out.2, Nat.pow_succ]; exact down_step b1 b2 b3 i3
        · exact (l1.drewN nq).other _ _ (by simp; omega)
        · exact (l2.drewN nq).other _ _ (by simp)
        · exact (l3.drewN nq).other _ _ (by simp)
        · rw [show ((xk : Int) + 65536 - yk - q) % 65536 = (((xk + 65536 - yk - q) % 65536 : Nat) : Int) from by omega]; exact (l4.drewN nq).put k ((xk + 65536 - yk - q) % 65536) hk16
        · exact (below_drewN l5 nq).setCell (by simp; omega) _
      case measure => first | (simp [intOf]; done) | (simp [intOf]; omega)
    · obtain rfl : k = 16 := by omega
      obtain ⟨l1, l2, ⟨d, l3⟩, l4, l5⟩ := HL.out
      have HZ : Hid (Dig z ∧ V z 16 + V y 16 = V x 16) := by
        obtain ⟨i1, i2, i3⟩ := HI.out
        have := HD.out.2.2
        refine ⟨i2, ?_⟩
        exact down_end i1 i3 this (V_lt z 16 i2)
      have HL2 : Hid (_ ∧ _ ∧ _) := (⟨l3, l4, l5⟩ : _ ∧ _ ∧ _)
      clear l1 l2 l3 l4 l5
      go_wp2_with (first
        | ((with_reducible refine guard_load 61 ?_); refine wpList_load_long rfl _ rfl HL2.out.2.1 rfl ?_)
        | ((with_reducible refine guard_store 61 ?_); refine wpList_store_long rfl _ _ rfl HL2.out.1 rfl rfl ?_; intro w2 hL2 hB2))
      refine bodyPost_ret (results_cell rfl _ _ _ _ rfl hL2.loadVar) rfl ?_
      exact ⟨z, rfl, HZ.out.1, HZ.out.2, hB2 _ _ HL2.out.2.2 (by omega)⟩
end Go.Proofs.YtblfmfanfpohbaaGreat
