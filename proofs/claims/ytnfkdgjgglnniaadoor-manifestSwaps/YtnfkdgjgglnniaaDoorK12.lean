/- Own texts, joined: Dec, Vmath. -/
import Derived.Test.YtnfkdgjgglnniaaDoorRows
import Derived.Test.YtnfkdgjgglnniaaDoorK00
namespace Go.Proofs.YtnfkdgjgglnniaaDoor
open Go.ChangeShapes Go.WideShapes Go.ChangeAt Go.RowKit
set_option maxRecDepth 100000 in
set_option maxHeartbeats 400000 in
theorem dec_any (l : List Nat) (a : Option Addr) (cap : Nat) (w : World) (hb : Bytes w a l) (hl : l.length ≤ maxLen) :
    Calls Tryd.prog 65 #[.slice a l.length cap] w fun e w' => e = .returned (.tuple #[.int .u64 (dec 0 0 l).1, .int .i64 (dec 0 0 l).2.1, .int .i64 (dec 0 0 l).2.2]) ∧ w = w' := by
  unfold maxLen at hl
  obtain ⟨hby, rfl | ⟨b, off, rfl, hlt, hcell⟩⟩ := hb
  · go_enter Tryd.func65, Tryd.ntmps65
    go_wp2
    refine wp_loop_rounds 1 ?_
    rw [rounds_succ]
    go_wp2
    go_ret3
    exact ⟨rfl, rfl⟩
  · go_enter Tryd.func65, Tryd.ntmps65
    go_wp2
    go_loop [5, 10] (fun u i => ∃ k u0 : Nat, k ≤ l.length ∧ k ≤ 9 ∧ i = .int .i64 k ∧ u = .int .u64 u0 ∧ u0 < 128 ^ k ∧ dec 0 0 l = dec k u0 (l.drop k)) (fun _ i => l.length - (intOf i).toNat)
    case atStart => exact ⟨0, 0, Nat.zero_le _, by omega, rfl, rfl, by simp, rfl⟩
    case round =>
      obtain ⟨k, u0, hk, hk9, rfl, rfl, hu, hd⟩ := hrel
      have HU : Hid (u0 < 128 ^ k) := hu
      have HD : Hid (_ = _) := hd
      clear hu hd
      by_cases hlt : k < l.length
      · have hc := hcell k hlt
        have hc256 := hby k
        obtain ⟨c, hcE⟩ : ∃ c, c = l.getD k 0 := ⟨_, rfl⟩
        rw [← hcE] at hc hc256
        have HC : Hid (c = l.getD k 0) := hcE
        clear hcE hcell hby
        by_cases hA : k = 9 ∧ 1 < c
        · obtain ⟨rfl, h1c⟩ := hA
          have HE : Hid (dec 0 0 l = (0, 0, 12)) := by
            show _ = _
            rw [HD.out, drop_at l _ c hlt HC.out, dec_cons, if_pos ⟨rfl, h1c⟩]
          clear HD HU HC
          go_wp2
          go_ret3
          exact ⟨by rw [HE.out]; rfl, rfl⟩
        · have hA' : k ≤ 8 ∨ (k = 9 ∧ c ≤ 1) := by omega
          by_cases hB : 128 ≤ c
          · have hk8 : k ≤ 8 := by omega
            have hkb : ((k : Int) == 9) = false := by simp; omega
            have HE : Hid (dec 0 0 l = dec (k + 1) (u0 + c % 128 * 128 ^ k) (l.drop (k + 1))) := by
              show _ = _
              rw [HD.out, drop_at l _ c hlt HC.out, dec_cons, if_neg hA, if_pos hB]
            have HO : Hid (_ ∧ _) := or_step u0 c k HU.out hc256 hA'
            clear hA' hk9 HD HU HC hA
            go_wp2
            go_round
            case rel => exact ⟨k + 1, _, by omega, by omega, by go_num, congrArg (Value.int IntKind.u64) HO.out.1, HO.out.2.1, HE.out⟩
            case measure => simp [intOf]; omega
          · by_cases hC : c = 0 ∧ 0 < k
            · obtain ⟨rfl, hk0⟩ := hC
              have HE : Hid (dec 0 0 l = (0, 0, 11)) := by
                show _ = _
                rw [HD.out, drop_at l _ _ hlt HC.out, dec_cons, if_neg hA, if_neg hB, if_pos ⟨rfl, hk0⟩]
              clear HD HU HC hA hA' hB
              by_cases hk9' : k = 9
              · subst hk9'
                go_wp2
                go_ret3
                exact ⟨by rw [HE.out]; rfl, rfl⟩
              · have hkb : ((k : Int) == 9) = false := by simp; omega
                clear hk9'
                go_wp2
                go_ret3
                exact ⟨by rw [HE.out]; rfl, rfl⟩
            · have HE : Hid (dec 0 0 l = (u0 + c % 128 * 128 ^ k, k + 1, 0)) := by
                show _ = _
                rw [HD.out, drop_at l _ _ hlt HC.out, dec_cons, if_neg hA, if_neg hB, if_neg hC]
              have HO : Hid (_ ∧ _) := or_step u0 c k HU.out hc256 hA'
              have hC' : c ≠ 0 ∨ k = 0 := by omega
              clear HD HU HC hA hC
              by_cases hk9' : k = 9
              · subst hk9'
                have hc0 : ((c : Int) == 0) = false := by simp; omega
                have hc1 : c ≤ 1 := by omega
                clear hC' hA'
                go_wp2
                go_ret3
                rw [HE.out]
                exact ⟨ret3 HO.out.1 rfl rfl, rfl⟩
              · have hkb : ((k : Int) == 9) = false := by simp; omega
                clear hk9' hA'
                by_cases hc0' : c = 0
                · have hk0 : ¬ (0 : Int) < (k : Int) := by omega
                  have hc0 : ((c : Int) == 0) = true := by simp; omega
                  clear hC' hc0'
                  go_wp2
                  go_ret3
                  rw [HE.out]
                  exact ⟨ret3 HO.out.1 rfl rfl, rfl⟩
                · have hc0 : ((c : Int) == 0) = false := by simp; omega
                  clear hC' hc0'
                  go_wp2
                  go_ret3
                  rw [HE.out]
                  exact ⟨ret3 HO.out.1 rfl rfl, rfl⟩
      · have HE : Hid (dec 0 0 l = (0, 0, 10)) := by
          show _ = _
          rw [HD.out, List.drop_eq_nil_of_le (by omega)]; rfl
        clear HD HU hcell hby
        go_wp2
        go_ret3
        exact ⟨by rw [HE.out]; rfl, rfl⟩
theorem dec_at (l : List Nat) (n u k e : Nat) (a : Option Addr) (cap : Nat) (w : World) (e1 : l.length = n) (hd : dec 0 0 l = (u, k, e)) (hb : Bytes w a l) (hl : l.length ≤ maxLen) :
    Calls Tryd.prog 65 #[.slice a n cap] w fun x w' => x = .returned (.tuple #[.int .u64 u, .int .i64 k, .int .i64 e]) ∧ w = w' := by
  subst e1
  refine (dec_any l a cap w hb hl).mono ?_
  rw [hd]
  exact fun _ _ h => h
end Go.Proofs.YtnfkdgjgglnniaaDoor
namespace Go.Proofs.YtnfkdgjgglnniaaDoor
open Go.ChangeShapes Go.WideShapes Go.ChangeAt Go.RowKit
def val7 : List Nat → Nat
  | [] => 0
  | c :: r => c % 128 + 128 * val7 r
theorem dec_zero (i u : Nat) (l : List Nat) (h : (dec i u l).2.2 ≠ 0) : (dec i u l).1 = 0 ∧ (dec i u l).2.1 = 0 := by
  induction l generalizing i u with
  | nil => exact ⟨rfl, rfl⟩
  | cons c r ih =>
    rw [dec_cons] at h ⊢
    split
    · exact ⟨rfl, rfl⟩
    · rename_i h1
      rw [if_neg h1] at h
      split
      · rename_i h2
        rw [if_pos h2] at h
        exact ih _ _ h
      · rename_i h2
        rw [if_neg h2] at h
        split
        · exact ⟨rfl, rfl⟩
        · rename_i h3
          rw [if_neg h3] at h
          exact absurd rfl h
theorem dec_ok (l : List Nat) (hl : ∀ x ∈ l, x < 256) (i u v n : Nat) (hi : i ≤ 9) (hu : u < 128 ^ i) (h : dec i u l = (v, n, 0)) :
    i < n ∧ n - i ≤ l.length ∧ n ≤ 10 ∧ v = u + 128 ^ i * val7 (l.take (n - i)) ∧ v < 18446744073709551616 ∧ (0 < i → val7 (l.take (n - i)) ≠ 0) ∧ encF (10 - i) (val7 (l.take (n - i))) = l.take (n - i) := by
  induction l generalizing i u with
  | nil => simp [dec] at h
  | cons c r ih =>
    have hc : c < 256 := hl c (by simp)
    rw [dec_cons] at h
    split at h
    · simp at h
    · rename_i h1
      have hk : i ≤ 8 ∨ (i = 9 ∧ c ≤ 1) := by omega
      have ho := or_step u c i hu hc hk
      split at h
      · rename_i h2
        have hi8 : i ≤ 8 := by omega
        obtain ⟨g1, g2, g3, g4, g5, g6, g7⟩ := ih (fun x hx => hl x (by simp [hx])) (i + 1) _ (by omega) ho.2.1 h
        have e : n - i = (n - (i + 1)) + 1 := by omega
        rw [e, List.take_succ_cons]
        refine ⟨by omega, by simp; omega, g3, ?_, g5, fun _ => ?_, ?_⟩
        · rw [g4]
          simp only [val7]
          rw [Nat.pow_succ]
          grind
        · have := g6 (by omega)
          simp only [val7]
          omega
        · have h6 := g6 (by omega)
          rw [show 10 - i = (10 - (i + 1)) + 1 from by omega]
          simp only [val7]
          unfold encF
          rw [if_neg (by omega)]
          rw [show (c % 128 + 128 * val7 (List.take (n - (i + 1)) r)) % 128 = c % 128 from by omega, show (c % 128 + 128 * val7 (List.take (n - (i + 1)) r)) / 128 = val7 (List.take (n - (i + 1)) r) from by omega, g7]
          rw [show 128 + c % 128 = c from by omega]
      · rename_i h2
        split at h
        · simp at h
        · rename_i h3
          simp only [Prod.mk.injEq, and_true] at h
          obtain ⟨rfl, rfl⟩ := h
          rw [show i + 1 - i = 1 from by omega, List.take_succ_cons, List.take_zero]
          have hm : c % 128 = c := by omega
          refine ⟨by omega, by simp, by omega, ?_, ho.2.2, fun h0 => ?_, ?_⟩
          · simp only [val7]; rw [hm, Nat.mul_zero, Nat.add_zero, Nat.mul_comm]
          · simp only [val7]; omega
          · simp only [val7]
            rw [show 10 - i = (9 - i) + 1 from by omega]
            unfold encF
            rw [if_pos (by omega), hm, Nat.mul_zero, Nat.add_zero]
/-- what is read is what would be written -/
theorem vdec_form (l : List Nat) (hl : ∀ x ∈ l, x < 256) (h : (dec 0 0 l).2.2 = 0) :
    1 ≤ (dec 0 0 l).2.1 ∧ (dec 0 0 l).2.1 ≤ l.length ∧ (dec 0 0 l).2.1 ≤ 10 ∧ (dec 0 0 l).1 ≤ 18446744073709551615 ∧ enc (dec 0 0 l).1 = l.take (dec 0 0 l).2.1 := by
  have := dec_ok l hl 0 0 (dec 0 0 l).1 (dec 0 0 l).2.1 (by omega) (by simp) (Prod.ext rfl (Prod.ext rfl h))
  obtain ⟨g1, g2, g3, g4, g5, _, g7⟩ := this
  rw [Nat.zero_add, Nat.pow_zero, Nat.one_mul, Nat.sub_zero] at g4
  rw [Nat.sub_zero] at g2 g7
  refine ⟨g1, g2, g3, by omega, ?_⟩
  unfold enc
  conv => lhs; rw [g4]
  exact g7
theorem pow_step (s x i : Nat) : s + x % 128 * 128 ^ i + x / 128 * 128 ^ (i + 1) = s + x * 128 ^ i := by
  have h : x * 128 ^ i = (128 * (x / 128) + x % 128) * 128 ^ i := by rw [Nat.div_add_mod]
  rw [h, Nat.pow_succ]
  grind
theorem top_byte (s x : Nat) (h : s + x * 128 ^ 9 < 18446744073709551616) : x < 2 := by
  rw [show (128 : Nat) ^ 9 = 9223372036854775808 from by decide] at h
  omega
theorem dec_enc (f i s x : Nat) (r : List Nat) (hf : f + i = 9) (hs : s < 128 ^ i) (hx : s + x * 128 ^ i < 18446744073709551616) (h0 : 0 < i → x ≠ 0) :
    dec i s (encF (f + 1) x ++ r) = (s + x * 128 ^ i, i + (encF (f + 1) x).length, 0) := by
  induction f generalizing i s x with
  | zero =>
    obtain rfl : i = 9 := by omega
    have h2 := top_byte s x hx
    unfold encF
    rw [if_pos (by omega)]
    have h3 := h0 (by omega)
    obtain rfl : x = 1 := by omega
    rw [List.singleton_append, dec_cons, if_neg (by omega), if_neg (by omega), if_neg (by omega)]
    rfl
  | succ f ih =>
    unfold encF
    by_cases hlt : x < 128
    · rw [if_pos hlt, List.singleton_append, dec_cons, if_neg (by omega), if_neg (by omega), if_neg (by rintro ⟨rfl, hi⟩; exact h0 hi rfl), Nat.mod_eq_of_lt hlt]
      rfl
    · rw [if_neg hlt, List.cons_append, dec_cons, if_neg (by omega), if_pos (by omega)]
      rw [show (128 + x % 128) % 128 = x % 128 from by omega]
      have hp := pow_step s x i
      have hlt2 : s + x % 128 * 128 ^ i < 128 ^ (i + 1) := by
        have h3 : x % 128 * 128 ^ i + 128 ^ i ≤ 128 ^ (i + 1) := by
          rw [Nat.pow_succ, ← Nat.succ_mul, Nat.mul_comm (128 ^ i)]
          exact Nat.mul_le_mul_right _ (by omega)
        omega
      rw [ih (i + 1) _ (x / 128) (by omega) hlt2 (by rw [hp]; exact hx) (fun _ => by omega), hp]
      simp only [List.length_cons]
      rw [show i + 1 + (encF (f + 1) (x / 128)).length = i + ((encF (f + 1) (x / 128)).length + 1) from by omega]
theorem dec_back (u : Nat) (r : List Nat) (h : u ≤ 18446744073709551615) : dec 0 0 (enc u ++ r) = (u, (enc u).length, 0) := by
  have := dec_enc 9 0 0 u r rfl (by simp) (by rw [Nat.pow_zero]; omega) (fun h => by omega)
  rw [Nat.zero_add, Nat.pow_zero, Nat.mul_one, Nat.zero_add] at this
  exact this
theorem vdec_short (f i s x j : Nat) (hf : f + i = 9) (hx : x < 128 ^ (f + 1)) (hj : j < (encF (f + 1) x).length) : dec i s ((encF (f + 1) x).take j) = (0, 0, 10) := by
  induction f generalizing i s x j with
  | zero =>
    unfold encF at hj ⊢
    rw [if_pos (by simpa using hx)] at hj ⊢
    obtain rfl : j = 0 := by simp at hj; omega
    rfl
  | succ f ih =>
    unfold encF at hj ⊢
    by_cases hlt : x < 128
    · rw [if_pos hlt] at hj ⊢
      obtain rfl : j = 0 := by simp at hj; omega
      rfl
    · rw [if_neg hlt] at hj ⊢
      cases j with
      | zero => rfl
      | succ j =>
        rw [List.take_succ_cons, dec_cons, if_neg (by omega), if_pos (by omega)]
        exact ih (i + 1) _ (x / 128) j (by omega) (by rw [Nat.pow_succ] at hx; exact Nat.div_lt_of_lt_mul (by rw [Nat.mul_comm]; exact hx)) (by simpa using hj)
theorem dec_cut (u j : Nat) (h : u ≤ 18446744073709551615) (hj : j < (enc u).length) : dec 0 0 ((enc u).take j) = (0, 0, 10) :=
  vdec_short 9 0 0 u j rfl (lt_pow10 u h) hj
end Go.Proofs.YtnfkdgjgglnniaaDoor
