/- Own texts, joined: Fr8. -/
import Derived.Test.YtnfkdgjgglnniaaDoorK16
import Derived.Deep.RegionHeld3
namespace Go.Proofs.YtnfkdgjgglnniaaDoor
open Go.ChangeShapes Go.WideShapes Go.ChangeAt Go.RowKit
set_option linter.unusedVariables false
theorem closed16 (l : List Nat) (h : 16 ≤ l.length) : closedB (l.take 16) = decide ((l.drop 12).take 4 = Crcm.four (Crcm.sum (l.take 12))) := by
  unfold closedB
  have h1 : (l.take 16).length = 16 := by rw [List.length_take]; omega
  rw [h1, show 16 - 4 = 12 from rfl, List.take_take, show min 12 16 = 12 from rfl, List.drop_take, show 16 - 12 = 4 from rfl, decide_eq_decide]
  exact ⟨fun x => x.2, fun x => ⟨by omega, x⟩⟩
/-- the bytes from 9 down to i -/
def hi6 (l : List Nat) (i : Nat) : Nat := Crcm.val ((l.drop (i + 1)).take (9 - i))
theorem hi6_step (l : List Nat) (i : Nat) (hl : 16 ≤ l.length) (h4 : 4 ≤ i) (h9 : i ≤ 9) : 256 * hi6 l i + l.getD i 0 = Crcm.val ((l.drop i).take (10 - i)) := by
  have e : (l.drop i).take (10 - i) = l.getD i 0 :: (l.drop (i + 1)).take (9 - i) := by
    rw [drop_at l i _ (by omega) rfl, show 10 - i = (9 - i) + 1 from by omega, List.take_succ_cons]
  rw [e]
  show _ = l.getD i 0 + 256 * Crcm.val _
  unfold hi6
  omega
theorem val_take_lt (l : List Nat) (hl : ∀ x ∈ l, x < 256) (i k : Nat) : Crcm.val ((l.drop i).take k) < 256 ^ k := by
  have h := Crcm.val_lt ((l.drop i).take k) (fun x hx => hl x (List.mem_of_mem_drop (List.mem_of_mem_take hx)))
  have h2 : ((l.drop i).take k).length ≤ k := List.length_take_le _ _
  have h3 : 2 ^ (8 * ((l.drop i).take k).length) ≤ 2 ^ (8 * k) := Nat.pow_le_pow_right (by omega) (by omega)
  rw [show (256 : Nat) ^ k = 2 ^ (8 * k) from by rw [Nat.pow_mul]]
  omega
theorem ps_parts (l : List Nat) (hl : 16 ≤ l.length) : ps l = Crcm.val ((l.drop 4).take 6) + 281474976710656 * (l.getD 10 0 + 256 * l.getD 11 0) := by
  unfold ps
  have e : (l.drop 4).take 8 = (l.drop 4).take 6 ++ [l.getD 10 0, l.getD 11 0] := by
    rw [show 8 = 6 + 2 from rfl, List.take_add, List.drop_drop, show 4 + 6 = 10 from rfl, drop_at l 10 _ (by omega) rfl, drop_at l 11 _ (by omega) rfl]
    rfl
  have h6 : ((l.drop 4).take 6).length = 6 := by rw [List.length_take, List.length_drop]; omega
  rw [e, Crcm.val_append, h6]
  rfl
theorem ps_bound (l : List Nat) (hl : 16 ≤ l.length) (hb : ∀ i, l.getD i 0 < 256) : ps l ≤ 1099511627776 ↔ l.getD 10 0 = 0 ∧ l.getD 11 0 = 0 ∧ Crcm.val ((l.drop 4).take 6) ≤ 1099511627776 := by
  rw [ps_parts l hl]
  have := hb 10
  have := hb 11
  omega
/-- what daybookref11.Peek has read by the loop -/
theorem ps_low (l : List Nat) (hl : 16 ≤ l.length) (h10 : l.getD 10 0 = 0) (h11 : l.getD 11 0 = 0) : Crcm.val ((l.drop 4).take 6) = ps l := by
  rw [ps_parts l hl, h10, h11]
  omega
theorem val6_step (l : List Nat) (j : Nat) (hl : 16 ≤ l.length) (h6 : j < 6) : 256 * Crcm.val ((l.drop (10 - j)).take j) + l.getD (9 - j) 0 = Crcm.val ((l.drop (10 - (j + 1))).take (j + 1)) := by
  have e : (l.drop (10 - (j + 1))).take (j + 1) = l.getD (9 - j) 0 :: (l.drop (10 - j)).take j := by
    rw [show 10 - (j + 1) = 9 - j from by omega, drop_at l (9 - j) _ (by omega) rfl, List.take_succ_cons, show 9 - j + 1 = 10 - j from by omega]
  rw [e]
  show _ = l.getD (9 - j) 0 + 256 * Crcm.val _
  omega
theorem val6_lt (l : List Nat) (hl : ∀ x ∈ l, x < 256) (i j : Nat) (h6 : j ≤ 6) : Crcm.val ((l.drop i).take j) < 281474976710656 := by
  have h := val_take_lt l hl i j
  have h2 : 256 ^ j ≤ 256 ^ 6 := Nat.pow_le_pow_right (by omega) h6
  rw [show (256 : Nat) ^ 6 = 281474976710656 from by decide] at h2
  omega
end Go.Proofs.YtnfkdgjgglnniaaDoor
