/- The arithmetic of a division bit by bit, over digits to the base 65536: no program in it. -/
import Derived.Test.YtblfmfanfpohbaaGreatTmath
namespace Go.Proofs.YtblfmfanfpohbaaGreat
namespace Om
theorem split (d : Nat → Nat) (m n : Nat) (h : m < n) : ∃ t, V d n = V d m + d m * 65536 ^ m + 65536 ^ (m + 1) * t := by
  obtain ⟨k, rfl⟩ : ∃ k, n = m + 1 + k := ⟨n - m - 1, by omega⟩
  clear h
  induction k with
  | zero => exact ⟨0, by rw [Nat.add_zero, V, Nat.mul_zero, Nat.add_zero]⟩
  | succ k ih =>
    obtain ⟨t, ht⟩ := ih
    refine ⟨t + d (m + 1 + k) * 65536 ^ k, ?_⟩
    rw [← Nat.add_assoc, V, ht, Nat.mul_add, Nat.pow_add 65536 (m + 1) k, Nat.mul_left_comm]
    omega
theorem over_div {low P x t : Nat} (hl : low < P) : (low + x * P + P * 65536 * t) / P = x + 65536 * t := by
  have hP : 0 < P := by omega
  rw [show low + x * P + P * 65536 * t = low + P * (x + 65536 * t) from by rw [Nat.mul_add, Nat.mul_comm x P, Nat.mul_assoc]; omega]
  rw [Nat.add_mul_div_left _ _ hP, Nat.div_eq_of_lt hl, Nat.zero_add]
theorem high (d : Nat → Nat) (m n : Nat) (hd : Dig d) (h : m < n) : ∃ t, V d n / 65536 ^ m = d m + 65536 * t := by
  obtain ⟨t, ht⟩ := split d m n h
  refine ⟨t, ?_⟩
  rw [ht, Nat.pow_succ]
  exact over_div (V_lt d m hd)
theorem pow16 (m : Nat) : (2 : Nat) ^ (16 * m) = 65536 ^ m := by rw [Nat.pow_mul]
theorem part (x t e : Nat) (he : e < 16) : (x + 65536 * t) / 2 ^ e % 2 = x / 2 ^ e % 2 := by
  obtain ⟨f, hf⟩ : ∃ f, e + (f + 1) = 16 := ⟨15 - e, by omega⟩
  have h1 : 65536 * t = 2 ^ e * (2 * (2 ^ f * t)) := by
    rw [show (65536 : Nat) = 2 ^ (e + (f + 1)) from by rw [hf], Nat.pow_add, Nat.pow_succ, Nat.mul_assoc, Nat.mul_assoc, Nat.mul_left_comm (2 ^ f)]
  rw [h1, Nat.add_mul_div_left _ _ (Nat.pow_pos (by omega))]
  omega
theorem bit (d : Nat → Nat) (m e n : Nat) (hd : Dig d) (h : m < n) (he : e < 16) : V d n / 2 ^ (16 * m + e) % 2 = d m / 2 ^ e % 2 := by
  obtain ⟨t, ht⟩ := high d m n hd h
  rw [Nat.pow_add, pow16, ← Nat.div_div_eq_div_mul, ht]
  exact part _ _ _ he
theorem step {A Q B r b : Nat} (h : A / 2 ^ (b + 1) = Q * B + r) : A / 2 ^ b = 2 * Q * B + (2 * r + A / 2 ^ b % 2) := by
  rw [Nat.pow_succ, ← Nat.div_div_eq_div_mul] at h
  have := Nat.div_add_mod (A / 2 ^ b) 2
  rw [h] at this
  rw [Nat.mul_add, ← Nat.mul_assoc] at this
  omega
theorem room {q : Nat → Nat} {Q m e : Nat} (hd : Dig q) (hm : m < 16) (he : e < 16) (h : V q 16 = Q * 2 ^ (16 * m + e + 1)) : q m + 2 ^ e < 65536 := by
  obtain ⟨t, ht⟩ := high q m 16 hd hm
  have h1 : V q 16 / 65536 ^ m = Q * 2 ^ (e + 1) := by
    rw [h, Nat.add_assoc, Nat.pow_add, pow16, Nat.mul_left_comm, Nat.mul_comm (65536 ^ m), Nat.mul_div_cancel _ (Nat.pow_pos (by omega))]
  rw [h1] at ht
  obtain ⟨f, hf⟩ : ∃ f, (e + 1) + f = 16 := ⟨15 - e, by omega⟩
  have h2 : 65536 = 2 ^ (e + 1) * 2 ^ f := by rw [← Nat.pow_add, hf]
  have h3 : 2 ^ (e + 1) ∣ q m := by
    have a : 2 ^ (e + 1) ∣ q m + 65536 * t := ⟨Q, by rw [← ht, Nat.mul_comm]⟩
    have b : 2 ^ (e + 1) ∣ 65536 * t := ⟨2 ^ f * t, by rw [← Nat.mul_assoc, ← h2]⟩
    exact (Nat.dvd_add_left b).1 a
  obtain ⟨c, hc⟩ := h3
  have h4 := hd m
  have h5 : c < 2 ^ f := by
    rw [hc] at h4
    exact Nat.lt_of_mul_lt_mul_left (Nat.lt_of_lt_of_eq h4 h2)
  have h6 : 2 ^ (e + 1) * (c + 1) ≤ 2 ^ (e + 1) * 2 ^ f := Nat.mul_le_mul_left _ h5
  rw [← h2, Nat.mul_add, Nat.mul_one, ← hc, Nat.pow_succ] at h6
  have h7 : 0 < 2 ^ e := Nat.pow_pos (by omega)
  omega
theorem even {d : Nat → Nat} {R : Nat} (h : V d 16 = 2 * R) : d 0 % 2 = 0 := by
  obtain ⟨t, ht⟩ := split d 0 16 (by omega)
  have h0 : V d 0 = 0 := rfl
  rw [h, h0] at ht
  simp only [Nat.pow_zero, Nat.zero_add, Nat.pow_one] at ht
  omega
theorem low_bit {d : Nat → Nat} {R β : Nat} (hd : Dig d) (h : V d 16 = 2 * R) (hb : β < 2) : d 0 + β < 65536 ∧ V (upd d 0 (d 0 + β)) 16 = 2 * R + β := by
  have h1 := even h
  have h2 := hd 0
  refine ⟨by omega, ?_⟩
  have h3 := Tm.V_upd_any d 0 (d 0 + β) 16 (by omega)
  rw [h, Nat.pow_zero, Nat.mul_one, Nat.mul_one] at h3
  omega
theorem set_bit {q : Nat → Nat} {Q m e : Nat} (hm : m < 16) (h : V q 16 = Q * 2 ^ (16 * m + e + 1)) : V (upd q m (q m + 2 ^ e)) 16 = (2 * Q + 1) * 2 ^ (16 * m + e) := by
  have h3 := Tm.V_upd_any q m (q m + 2 ^ e) 16 hm
  have h4 : 2 ^ e * 65536 ^ m = 2 ^ (16 * m + e) := by rw [Nat.pow_add, pow16, Nat.mul_comm]
  rw [h, Nat.add_mul (q m) (2 ^ e), Nat.pow_succ 2 (16 * m + e), h4] at h3
  have h5 : Q * (2 ^ (16 * m + e) * 2) = 2 * Q * 2 ^ (16 * m + e) := by rw [Nat.mul_comm (2 ^ (16 * m + e)) 2, ← Nat.mul_assoc, Nat.mul_comm Q 2]
  rw [h5] at h3
  rw [Nat.add_mul, Nat.one_mul]
  omega
theorem no_bit {q : Nat → Nat} {Q m e : Nat} (h : V q 16 = Q * 2 ^ (16 * m + e + 1)) : V q 16 = 2 * Q * 2 ^ (16 * m + e) := by
  rw [h, Nat.pow_succ, Nat.mul_comm 2 Q, Nat.mul_assoc, Nat.mul_comm 2]
end Om
end Go.Proofs.YtblfmfanfpohbaaGreat
