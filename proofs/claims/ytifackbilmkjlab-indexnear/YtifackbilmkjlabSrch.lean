/- What sort.Search answers for index.Last's closure. -/
import Derived.Test.YtifackbilmkjlabMk
namespace Go.Proofs.Ytifackbilmkjlab
open Go.ChangeShapes Go.WideShapes Go.ChangeAt Go.RowKit
set_option linter.unusedVariables false
set_option maxRecDepth 20000 in
set_option maxHeartbeats 2000000 in
theorem srch_mark (c1 c2 : Value) (n : Nat) (p : Nat → Bool) (w : World) (hn : n ≤ 140737488351232)
    (hf : ∀ wr, Below w.heap.size w wr → ∀ i : Nat, i < n → Calls Try.prog 16 #[.int .i64 (i : Int), c1, c2] wr fun e w' => e = .returned (.bool (p i)) ∧ Below wr.heap.size wr w')
    (hmono : ∀ a b, a ≤ b → b < n → p a = true → p b = true) :
    Calls Try.prog 15 #[.int .i64 (n : Int), .func (Fn.func 16) #[] #[c1, c2]] w fun e w' => ∃ r : Nat, e = .returned (.int .i64 (r : Int)) ∧ r ≤ n ∧ (∀ t, t < r → p t = false) ∧ (∀ t, r ≤ t → t < n → p t = true) ∧ Below w.heap.size w w' := by
  have HF : Hid (∀ wr, Below w.heap.size w wr → ∀ i : Nat, i < n → Calls Try.prog 16 #[.int .i64 (i : Int), c1, c2] wr fun e w' => e = .returned (.bool (p i)) ∧ Below wr.heap.size wr w') := hf
  have HM : Hid (∀ a b, a ≤ b → b < n → p a = true → p b = true) := hmono
  clear hf hmono
  have hnI : (n : Int) ≤ 140737488351232 := by omega
  go_enter Try.func15, Try.ntmps15
  go_wp2
  go_loopw [5, 6] (fun vi vj wr => ∃ (lo hi : Nat), vi = .int .i64 lo ∧ vj = .int .i64 hi ∧ lo ≤ hi ∧ hi ≤ n ∧ (∀ t, t < lo → p t = false) ∧ (∀ t, hi ≤ t → t < n → p t = true) ∧ Below w.heap.size w wr) (fun vi vj _ => (intOf vj).toNat - (intOf vi).toNat)
  case atStart => exact ⟨0, n, rfl, rfl, Nat.zero_le _, Nat.le_refl _, fun t ht => absurd ht (Nat.not_lt_zero _), fun t h1 h2 => by omega, Below.refl _ _⟩
  case round =>
    obtain ⟨lo, hi, rfl, rfl, hlh, hin, h1, h2, hbe⟩ := hrel
    have H1 : Hid (∀ t, t < lo → p t = false) := h1
    have H2 : Hid (∀ t, hi ≤ t → t < n → p t = true) := h2
    clear h1 h2
    by_cases hlt : lo < hi
    · have hc := HF.out wr hbe ((lo + hi) / 2) (by omega)
      rw [show (((lo + hi) / 2 : Nat) : Int) = ((lo : Int) + (hi : Int)) / 2 by omega] at hc
      cases hp : p ((lo + hi) / 2) with
      | false =>
        rw [hp] at hc
        have HP : Hid (p ((lo + hi) / 2) = false) := hp
        clear hp
        go_wp2_with (go_at_call 16; refine hc.mono ?_; rintro e w2 ⟨rfl, hb2⟩)
        go_roundw
        case rel =>
          refine ⟨(lo + hi) / 2 + 1, hi, by rw [show ((lo : Int) + (hi : Int)) / 2 + 1 = (((lo + hi) / 2 + 1 : Nat) : Int) by omega], rfl, by omega, hin, fun t ht => ?_, H2.out, below_next hbe hb2⟩
          cases h : p t with
          | false => rfl
          | true => have h3 := HM.out t ((lo + hi) / 2) (by omega) (by omega) h; rw [HP.out] at h3; cases h3
        case measure => simp [intOf]; omega
      | true =>
        rw [hp] at hc
        have HP : Hid (p ((lo + hi) / 2) = true) := hp
        clear hp
        go_wp2_with (go_at_call 16; refine hc.mono ?_; rintro e w2 ⟨rfl, hb2⟩)
        go_roundw
        case rel => exact ⟨lo, (lo + hi) / 2, rfl, by rw [show ((lo : Int) + (hi : Int)) / 2 = (((lo + hi) / 2 : Nat) : Int) by omega], by omega, by omega, H1.out, fun t ht htn => HM.out ((lo + hi) / 2) t ht htn HP.out, below_next hbe hb2⟩
        case measure => simp [intOf]; omega
    · obtain rfl : hi = lo := by omega
      go_wp2
      go_ret
      exact ⟨hi, rfl, hin, H1.out, H2.out, hbe⟩
end Go.Proofs.Ytifackbilmkjlab
