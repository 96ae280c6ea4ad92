/- The arithmetic under a division of two words by one, digit by digit: no program in it. -/
namespace Go.Proofs.YtblfmfanfpohbaaGreat
namespace Divm
/-- what the guess q' of a digit with its rest r' says: q' times the divisor. -/
theorem guess {q' r' yn1 yn0 u y K : Nat} (hy : y = yn1 * K + yn0) (hu : q' * yn1 + r' = u) : q' * y + r' * K = u * K + q' * yn0 := by
  subst hy hu
  rw [Nat.mul_add, Nat.add_mul, Nat.mul_assoc]
  omega
theorem digit_lt {u y n K : Nat} (hu : u < y) (hn : n < K) : (u * K + n) / y < K := by
  rw [Nat.div_lt_iff_lt_mul (by omega)]
  have : (u + 1) * K ≤ y * K := Nat.mul_le_mul_right _ hu
  rw [Nat.add_mul] at this
  rw [Nat.mul_comm K y]
  omega
/-- the test says 'too much': so it is. -/
theorem over {q' r' yn1 yn0 u y n K : Nat} (hy : y = yn1 * K + yn0) (hu : q' * yn1 + r' = u) (hlt : u < y) (hn : n < K) (h : K ≤ q' ∨ K * r' + n < q' * yn0) : (u * K + n) / y < q' := by
  rcases h with h | h
  · exact Nat.lt_of_lt_of_le (digit_lt hlt hn) h
  · rw [Nat.div_lt_iff_lt_mul (by omega)]
    have := guess hy hu
    rw [Nat.mul_comm K r'] at h
    omega
/-- the test says 'no more than right'. -/
theorem under {q' r' yn1 yn0 u y n K : Nat} (hy : y = yn1 * K + yn0) (hu : q' * yn1 + r' = u) (hlt : u < y) (h : q' * yn0 ≤ K * r' + n) : q' ≤ (u * K + n) / y := by
  rw [Nat.le_div_iff_mul_le (by omega)]
  have := guess hy hu
  rw [Nat.mul_comm K r'] at h
  omega
/-- one less: its rest. -/
theorem less {q' r' yn1 u : Nat} (h1 : 1 ≤ q') (hu : q' * yn1 + r' = u) : (q' - 1) * yn1 + (r' + yn1) = u := by
  obtain ⟨q, rfl⟩ : ∃ q, q' = q + 1 := ⟨q' - 1, by omega⟩
  rw [Nat.add_sub_cancel, ← hu, Nat.add_mul]
  omega
/-- the rest has left the digit: no more than right. -/
theorem broke {q' r' yn1 yn0 u y n K : Nat} (hy : y = yn1 * K + yn0) (hu : q' * yn1 + r' = u) (hlt : u < y) (hq : q' ≤ K) (h0 : yn0 < K) (hr : K ≤ r') : q' ≤ (u * K + n) / y := by
  refine under hy hu hlt ?_
  have h1 : q' * yn0 ≤ K * r' := Nat.mul_le_mul hq (by omega)
  omega
theorem first_le {u y yn1 yn0 K : Nat} (hy : y = yn1 * K + yn0) (hlt : u < y) (h0 : yn0 < K) (h1 : K ≤ 2 * yn1) (hK : 0 < K) : u / yn1 ≤ K + 1 := by
  have : u / yn1 < K + 2 := by
    rw [Nat.div_lt_iff_lt_mul (by omega), Nat.add_mul, Nat.mul_comm K yn1]
    omega
  omega
theorem first_ge {u y yn1 yn0 n K : Nat} (hy : y = yn1 * K + yn0) (hn : n < K) (h1 : 0 < yn1) (hK : 0 < K) : (u * K + n) / y ≤ u / yn1 := by
  have hle : (u * K + n) / y ≤ (u * K + n) / (yn1 * K) := Nat.div_le_div_left (by omega) (Nat.mul_pos h1 hK)
  rw [Nat.mul_comm yn1 K, ← Nat.div_div_eq_div_mul, Nat.mul_comm u K, Nat.mul_add_div hK, Nat.div_eq_of_lt hn] at hle
  rw [Nat.mul_comm u K]
  simpa using hle
/-- the rest behind a digit, in words that wrap round. -/
theorem rest_wrap {u n q y K : Nat} (hq : q = (u * K + n) / y) (hy : y ≤ 18446744073709551616) (h0 : 0 < y) :
    (((u : Int) * K % 18446744073709551616 + n) % 18446744073709551616 - (q : Int) * y % 18446744073709551616) % 18446744073709551616 = (((u * K + n) % y : Nat) : Int) := by
  have h1 := Nat.div_add_mod (u * K + n) y
  have h2 := Nat.mod_lt (u * K + n) h0
  rw [← hq, Nat.mul_comm] at h1
  have h3 : (u : Int) * K + n = (q : Int) * y + ((u * K + n) % y : Nat) := by exact_mod_cast h1.symm
  generalize (q : Int) * y = A at *
  generalize (u : Int) * K = B at *
  omega
/-- both digits together. -/
theorem both {N y q1 q0 un32 un1 un0 p K m r : Nat} (hp : 0 < p) (hy : 0 < y) (hN : N * p = (un32 * K + un1) * K + un0)
    (hm : (un32 * K + un1) % (y * p) = m) (hr : (m * K + un0) % (y * p) = r)
    (h1 : q1 = (un32 * K + un1) / (y * p)) (h0 : q0 = (m * K + un0) / (y * p)) :
    q1 * K + q0 = N / y ∧ r / p = N % y := by
  have hyp : 0 < y * p := Nat.mul_pos hy hp
  have a1 := Nat.div_add_mod (un32 * K + un1) (y * p)
  have a0 := Nat.div_add_mod (m * K + un0) (y * p)
  have b0 := Nat.mod_lt (m * K + un0) hyp
  rw [← h1, hm] at a1
  rw [← h0, hr] at a0
  rw [hr] at b0
  have hT : N * p = y * p * (q1 * K + q0) + r := by
    rw [hN, ← a1, Nat.mul_add, Nat.add_mul, Nat.mul_assoc (y * p) q1 K]
    omega
  have hd : N * p / (y * p) = N / y := Nat.mul_div_mul_right N y hp
  have hm : N * p % (y * p) = N % y * p := Nat.mul_mod_mul_right p N y
  constructor
  · rw [← hd, hT, Nat.mul_add_div hyp, Nat.div_eq_of_lt b0, Nat.add_zero]
  · have : N * p % (y * p) = r := by rw [hT, Nat.mul_add_mod, Nat.mod_eq_of_lt b0]
    rw [← this, hm, Nat.mul_div_cancel _ hp]
end Divm
end Go.Proofs.YtblfmfanfpohbaaGreat
