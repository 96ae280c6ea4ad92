/- What the reference's Fits answers. -/
import Derived.Test.YtblfmfanfpohbaaGreatCmp
namespace Go.Proofs.YtblfmfanfpohbaaGreat
open Go.ChangeShapes Go.WideShapes Go.ChangeAt Go.RowKit
theorem V_zero {x : Nat → Nat} {n : Nat} (m : Nat) (h : ∀ i, n ≤ i → i < m → x i = 0) (hm : n ≤ m) : V x m = V x n := by
  obtain ⟨k, rfl⟩ : ∃ k, m = n + k := ⟨m - n, by omega⟩
  induction k with
  | zero => rfl
  | succ k ih => rw [← Nat.add_assoc, V, ih (fun i h1 h2 => h i h1 (by omega)) (by omega), h _ (by omega) (by omega)]; omega
theorem V_mono {x : Nat → Nat} {n m : Nat} (h : n ≤ m) : V x n ≤ V x m := by
  obtain ⟨k, rfl⟩ : ∃ k, m = n + k := ⟨m - n, by omega⟩
  induction k with
  | zero => exact Nat.le_refl _
  | succ k ih => rw [← Nat.add_assoc, V]; have := ih (by omega); omega
theorem V_big {x : Nat → Nat} {k : Nat} (hk : 4 ≤ k) (hk2 : k < 16) (h : x k ≠ 0) : 18446744073709551616 ≤ V x 16 := by
  have h1 : V x (k + 1) ≤ V x 16 := V_mono (by omega)
  rw [V] at h1
  have h2 : 1 * 65536 ^ k ≤ x k * 65536 ^ k := Nat.mul_le_mul_right _ (by omega)
  have h3 : 65536 ^ 4 ≤ 65536 ^ k := Nat.pow_le_pow_right (by omega) hk
  have h4 : (65536 : Nat) ^ 4 = 18446744073709551616 := by decide
  omega
theorem fit_big (s : Bool) (n : Nat) (h : 18446744073709551616 ≤ n) : fitV (sgn s n) = 0 ∧ fitB (sgn s n) = false := by
  have hn : ¬ inI (sgn s n) := by unfold inI sgn; split <;> omega
  unfold fitV fitB
  rw [if_neg hn, decide_eq_false hn]
  exact ⟨rfl, rfl⟩
theorem fit_not (v : Int) (h : ¬ inI v) : fitV v = 0 ∧ fitB v = false := by
  unfold fitV fitB
  rw [if_neg h, decide_eq_false h]
  exact ⟨rfl, rfl⟩
theorem lay1 (w : World) (b : Bool) (x : Nat → Nat) : LongAt (w.alloc (.cells (LA b x) 61)) w.heap.size b x ∧ Below w.heap.size w (w.alloc (.cells (LA b x) 61)) := by
  refine ⟨?_, bal (Below.refl _ _) _⟩
  unfold LongAt; simp only [World.alloc, Array.getElem?_push]; simp
theorem u_bound {u j A B : Nat} (h : u * 65536 ^ (j + 1) + A = B) (hB : B < 18446744073709551616) : u ≤ 281474976710655 := by
  have h1 : u * 65536 ^ 1 ≤ u * 65536 ^ (j + 1) := Nat.mul_le_mul_left _ (Nat.pow_le_pow_right (by omega) (by omega))
  have : u * 65536 ≤ B := by simpa using Nat.le_trans h1 (by omega)
  omega
theorem u_step {u j a A B : Nat} (h : u * 65536 ^ (j + 1) + (A + a * 65536 ^ j) = B) : (u * 65536 + a) * 65536 ^ j + A = B := by
  rw [Nat.pow_succ, Nat.mul_comm (65536 ^ j) 65536, ← Nat.mul_assoc] at h
  rw [Nat.add_mul]
  omega
set_option maxRecDepth 20000 in
set_option maxHeartbeats 2000000 in
theorem lfits_any (s : Bool) (x : Nat → Nat) (w : World) (hx : Dig x) :
    Calls Tryz.prog 34 #[.agg (LA s x)] w fun e w' => e = .returned (.tuple #[.int .i64 (fitV (sgn s (V x 16))), .bool (fitB (sgn s (V x 16)))]) ∧ Below w.heap.size w w' := by
  obtain ⟨X, hX⟩ : ∃ X, LA s x = X := ⟨_, rfl⟩
  have HX : Hid (_ = _) := hX
  have HD : Hid (Dig x) := hx
  rw [hX]
  have hsx : X.size = 17 := by rw [← hX]; rfl
  clear hX hx
  obtain ⟨fv, Ev⟩ : ∃ v, Hid (fitV (sgn s (V x 16)) = v) := ⟨_, rfl⟩
  obtain ⟨fb, Eb⟩ : ∃ v, Hid (fitB (sgn s (V x 16)) = v) := ⟨_, rfl⟩
  rw [Ev.out, Eb.out]
  go_enter Tryz.func34, Tryz.ntmps34
  go_wp2
  go_loopw [4] (fun vi wr => ∃ k : Nat, 4 ≤ k ∧ k ≤ 16 ∧ vi = .int .i64 k ∧ Hid (∀ j, 4 ≤ j → j < k → x j = 0) ∧ Hid (LongAt wr w.heap.size s x ∧ Below w.heap.size w wr)) (fun vi _ => 16 - (intOf vi).toNat)
  case atStart => exact ⟨4, by omega, by omega, rfl, fun j h1 h2 => by omega, by rw [← HX.out]; exact lay1 w s x⟩
  case round =>
    obtain ⟨k, hk4, hk, rfl, HI, HL⟩ := hrel
    by_cases hk16 : k < 16
    · have hcx := HL.out.1.digit k hk16
      obtain ⟨xk, exk⟩ : ∃ v, x k = v := ⟨_, rfl⟩
      rw [exk] at hcx
      have HE : Hid (x k = xk) := exk
      clear exk
      by_cases hz : xk = 0
      · subst hz
        go_wp2
        go_round
        case rel =>
          refine ⟨k + 1, by omega, by omega, by go_num, fun j h1 h2 => ?_, HL.out⟩
          by_cases hj : j = k
          · subst hj; exact HE.out
          · exact HI.out j h1 (by omega)
        case measure => first | (simp [intOf]; done) | (simp [intOf]; omega)
      · have hzb : ((xk : Int) == 0) = false := by simp; omega
        have HB := fit_big s _ (V_big (x := x) hk4 hk16 (by rw [HE.out]; exact hz))
        rw [Ev.out, Eb.out] at HB
        obtain ⟨h1, h2⟩ := HB
        subst h1 h2
        go_wp2
        go_ret2
        exact ⟨rfl, HL.out.2⟩
    · obtain rfl : k = 16 := by omega
      have HV : Hid (V x 16 = V x 4) := V_zero 16 (fun j h1 h2 => HI.out j h1 h2) (by omega)
      have HV4 : Hid (V x 4 < 18446744073709551616) := by show _ < _; have := V_lt x 4 HD.out; rwa [show (65536 : Nat) ^ 4 = 18446744073709551616 from by decide] at this
      have hL1 := HL.out
      have HL1 : Hid (_ ∧ _) := hL1
      clear HI HL hL1
      go_wp2
      go_loop [5, 6] (fun vu vi => ∃ (j : Nat) (u : Int), j ≤ 4 ∧ vi = .int .i64 ((j : Int) - 1) ∧ vu = .int .u64 u ∧ Hid (∃ un : Nat, u = un ∧ un * 65536 ^ j + V x j = V x 4)) (fun _ vi => (intOf vi + 1).toNat)
      case atStart => exact ⟨4, 0, by omega, rfl, rfl, 0, rfl, by omega⟩
      case round =>
        obtain ⟨j, u, hj, rfl, rfl, HU⟩ := hrel
        rcases Nat.eq_zero_or_pos j with rfl | hj0
        · have HU0 : Hid (u = (V x 4 : Nat)) := by
            obtain ⟨un, e1, e2⟩ := HU.out
            show _ = _
            rw [e1, ← e2]
            simp [V]
          have hu0 : 0 ≤ u := by have := HU0.out; omega
          have hu1 : u ≤ 18446744073709551615 := by have := HU0.out; have := HV4.out; omega
          have hc0 := HL1.out.1.sign
          have HF : Hid (sgn s (V x 16) = if s = true then -u else u) := by show _ = _; unfold sgn; rw [HV.out, HU0.out]
          clear HU
          rw [HF.out] at Ev Eb
          have HR : Hid (fitV (if s = true then -u else u) = fv ∧ fitB (if s = true then -u else u) = fb) := ⟨Ev.out, Eb.out⟩
          clear Ev Eb
          cases s with
          | true =>
            by_cases hp : 0 < u
            · by_cases hb : u ≤ 9223372036854775808
              · have h9 := fit_in (-u) ⟨by omega, by omega⟩
                have HR2 : Hid (-u = fv ∧ true = fb) := ⟨h9.1.symm.trans HR.out.1, h9.2.symm.trans HR.out.2⟩
                clear h9
                go_wp2
                go_ret2
                exact ⟨ret_ib (by rw [← HR2.out.1]; omega) HR2.out.2, HL1.out.2⟩
              · have h9 := fit_not (-u) (by unfold inI; omega)
                have HR2 : Hid (0 = fv ∧ false = fb) := ⟨h9.1.symm.trans HR.out.1, h9.2.symm.trans HR.out.2⟩
                clear h9
                go_wp2
                go_ret2
                exact ⟨ret_ib HR2.out.1 HR2.out.2, HL1.out.2⟩
            · obtain rfl : u = 0 := by omega
              have HR2 : Hid (0 = fv ∧ true = fb) := ⟨HR.out.1, HR.out.2⟩
              go_wp2
              go_ret2
              exact ⟨ret_ib HR2.out.1 HR2.out.2, HL1.out.2⟩
          | false =>
            by_cases hb : u ≤ 9223372036854775807
            · have h9 := fit_in u ⟨by omega, by omega⟩
              have HR2 : Hid (u = fv ∧ true = fb) := ⟨h9.1.symm.trans HR.out.1, h9.2.symm.trans HR.out.2⟩
              clear h9
              go_wp2
              go_ret2
              exact ⟨ret_ib HR2.out.1 HR2.out.2, HL1.out.2⟩
            · have h9 := fit_not u (by unfold inI; omega)
              have HR2 : Hid (0 = fv ∧ false = fb) := ⟨h9.1.symm.trans HR.out.1, h9.2.symm.trans HR.out.2⟩
              clear h9
              go_wp2
              go_ret2
              exact ⟨ret_ib HR2.out.1 HR2.out.2, HL1.out.2⟩
        · obtain ⟨m, rfl⟩ : ∃ m, j = m + 1 := ⟨j - 1, by omega⟩
          have em : ((m + 1 : Nat) : Int) - 1 = (m : Int) := by omega
          rw [em]
          have hm : m < 16 := by omega
          have hm4 : (m : Int) < 16 := by omega
          have hcx := HL1.out.1.digit m hm
          have hdx := HD.out m
          obtain ⟨xm, exm⟩ : ∃ v, x m = v := ⟨_, rfl⟩
          rw [exm] at hcx hdx
          have HE : Hid (x m = xm) := exm
          have hub : 0 ≤ u ∧ u ≤ 281474976710655 := by
            obtain ⟨un, e1, e2⟩ := HU.out
            have := u_bound e2 HV4.out
            omega
          obtain ⟨hu0, hu1⟩ := hub
          clear exm em
          go_wp2
          go_round
          case rel =>
            refine ⟨m, _, by omega, by go_num, rfl, ?_⟩
            obtain ⟨un, e1, e2⟩ := HU.out
            rw [V, HE.out] at e2
            exact ⟨un * 65536 + xm, by rw [e1]; omega, u_step e2⟩
          case measure => first | (simp [intOf]; done) | (simp [intOf]; omega)
end Go.Proofs.YtblfmfanfpohbaaGreat
