/- The arithmetic of a product as at school: no program in it. -/
import Derived.Test.YtblfmfanfpohbaaGreatFits
namespace Go.Proofs.YtblfmfanfpohbaaGreat
namespace Tm
theorem V_upd_any (d : Nat → Nat) (m v n : Nat) (h : m < n) : V (upd d m v) n + d m * 65536 ^ m = V d n + v * 65536 ^ m := by
  obtain ⟨k, rfl⟩ : ∃ k, n = m + 1 + k := ⟨n - m - 1, by omega⟩
  clear h
  induction k with
  | zero => rw [Nat.add_zero, V_upd_succ, V]; omega
  | succ k ih =>
    rw [← Nat.add_assoc, V, V]
    have e : upd d m v (m + 1 + k) = d (m + 1 + k) := by unfold upd; rw [if_neg (by omega)]
    rw [e]
    omega
theorem carry (s P : Nat) : s % 65536 * P + s / 65536 * (P * 65536) = s * P := by
  have e : (s % 65536 + s / 65536 * 65536) * P = s * P := by rw [show s % 65536 + s / 65536 * 65536 = s from by omega]
  rw [Nat.add_mul, Nat.mul_assoc, Nat.mul_comm 65536 P] at e
  exact e
/-- one digit of the inner round -/
theorem inner {Vz Vz' zm P c p T s : Nat} (hs : s = zm + p + c) (h1 : Vz' + zm * P = Vz + s % 65536 * P) (h : Vz + c * P = T) : Vz' + s / 65536 * (P * 65536) = T + p * P := by
  have h2 := carry s P
  have h3 : s * P = zm * P + p * P + c * P := by rw [hs, Nat.add_mul, Nat.add_mul]
  omega
theorem inner_row {Vz Vz' zm c p R xi yj i j : Nat} {x y : Nat → Nat} (ex : x i = xi) (ey : y j = yj) (ep : p = xi * yj) (h1 : Vz' + zm * 65536 ^ (i + j) = Vz + (zm + p + c) % 65536 * 65536 ^ (i + j)) (h : Vz + c * 65536 ^ (i + j) = R + x i * 65536 ^ i * V y j) :
    Vz' + (zm + p + c) / 65536 * 65536 ^ (i + (j + 1)) = R + x i * 65536 ^ i * V y (j + 1) := by
  have h2 := inner rfl h1 h
  rw [← Nat.add_assoc, Nat.pow_succ, h2]
  show _ = R + x i * 65536 ^ i * (V y j + y j * 65536 ^ j)
  rw [Nat.mul_add, ep, ← ex, ← ey, Nat.pow_add, Nat.add_assoc]
  congr 2
  rw [Nat.mul_assoc, Nat.mul_assoc, Nat.mul_left_comm (y j)]
theorem carry_row {Vz Vz' zk c T k : Nat} (h1 : Vz' + zk * 65536 ^ k = Vz + (zk + c) % 65536 * 65536 ^ k) (h : Vz + c * 65536 ^ k = T) : Vz' + (zk + c) / 65536 * 65536 ^ (k + 1) = T := by
  have h2 := inner (p := 0) (s := zk + c) (by omega) h1 h
  rw [Nat.pow_succ, h2]; omega
theorem drop_nought {A T P : Nat} (h : A + 0 * P = T) : A = T := by omega
theorem row {A X Bi y j Vj : Nat} (h : A = X) : A + Bi * y * 65536 ^ j + Bi * Vj = X + Bi * (Vj + y * 65536 ^ j) := by
  rw [h, Nat.mul_add, Nat.mul_assoc]; omega
theorem low {d : Nat → Nat} (h : V d 16 < 65536 ^ 8) : V d 16 = V d 8 := by
  refine V_zero 16 (fun i h1 h2 => ?_) (by omega)
  by_cases hz : d i = 0
  · exact hz
  · exfalso
    have a : V d (i + 1) ≤ V d 16 := V_mono (by omega)
    rw [V] at a
    have b : 1 * 65536 ^ i ≤ d i * 65536 ^ i := Nat.mul_le_mul_right _ (by omega)
    have c : (65536 : Nat) ^ 8 ≤ 65536 ^ i := Nat.pow_le_pow_right (by omega) h1
    exact Nat.lt_irrefl _ (Nat.lt_of_le_of_lt (Nat.le_trans c (Nat.le_trans (by rw [Nat.one_mul] at b; exact b) (Nat.le_trans (Nat.le_add_left _ _) a))) h)
theorem prod_lt {x y : Nat → Nat} {i : Nat} (hx : Dig x) (hy : Dig y) (hi : i ≤ 8) : V x i * V y 8 < 65536 ^ 16 := by
  have a := V_lt x i hx
  have b := V_lt y 8 hy
  have c : (65536 : Nat) ^ i ≤ 65536 ^ 8 := Nat.pow_le_pow_right (by omega) hi
  have d : V x i * V y 8 ≤ V x i * 65536 ^ 8 := Nat.mul_le_mul_left _ (Nat.le_of_lt b)
  have e : V x i * 65536 ^ 8 < 65536 ^ 8 * 65536 ^ 8 := Nat.mul_lt_mul_of_pos_right (Nat.lt_of_lt_of_le a c) (Nat.pow_pos (by omega))
  rw [← Nat.pow_add] at e
  exact Nat.lt_of_le_of_lt d e
theorem next_row (x y : Nat → Nat) (i : Nat) : V x i * V y 8 + x i * 65536 ^ i * V y 8 = V x (i + 1) * V y 8 := by
  show _ = (V x i + x i * 65536 ^ i) * V y 8
  rw [Nat.add_mul]
theorem v_nought {x0 : Nat → Nat} (y : Nat → Nat) : V (fun _ => 0) 16 = V x0 0 * V y 8 := by
  rw [V_zero (x := fun _ => 0) (n := 0) 16 (fun _ _ _ => rfl) (by omega)]
  show 0 = 0 * _
  rw [Nat.zero_mul]
theorem begin_row {A T P : Nat} {R : Nat} (h : A = T) : A + 0 * P = T + R * 0 := by omega
theorem no_carry {c A T : Nat} (h : A + c * 65536 ^ 16 = T) (hT : T < 65536 ^ 16) : c = 0 := by
  rcases Nat.eq_zero_or_pos c with h0 | h0
  · exact h0
  · exfalso
    have : 1 * 65536 ^ 16 ≤ c * 65536 ^ 16 := Nat.mul_le_mul_right _ h0
    rw [Nat.one_mul] at this
    exact Nat.lt_irrefl _ (Nat.lt_of_le_of_lt (Nat.le_trans this (Nat.le_trans (Nat.le_add_left _ _) (Nat.le_of_eq h))) hT)
end Tm
end Go.Proofs.YtblfmfanfpohbaaGreat
