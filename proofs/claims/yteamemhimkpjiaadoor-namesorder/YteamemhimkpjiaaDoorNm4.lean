/- The order of names. -/
import Derived.Test.YteamemhimkpjiaaDoorNm0
import GoSem.Op.String
namespace Go.Proofs.YteamemhimkpjiaaDoor
open Go
set_option linter.unusedVariables false
theorem less_cons (c : UInt8) (x y : List UInt8) : Op.bytesLess (c :: x) (c :: y) = Op.bytesLess x y := by
  simp [Op.bytesLess]
theorem less_lt (c d : UInt8) (x y : List UInt8) (h : c < d) : Op.bytesLess (c :: x) (d :: y) = true := by
  simp [Op.bytesLess, h]
theorem less_app (h x y : List UInt8) : Op.bytesLess (h ++ x) (h ++ y) = Op.bytesLess x y := by
  induction h with
  | nil => rfl
  | cons c r ih => rw [List.cons_append, List.cons_append, less_cons, ih]
theorem dg_lt (a b : Nat) (h : a < b) (hb : b ≤ 9) : dg a < dg b := by
  rw [UInt8.lt_iff_toNat_lt, dg_toNat a (by omega), dg_toNat b hb]
  omega
theorem six_digits (n : Nat) (hn : n ≤ 999999) : ∃ a b c d e f : Nat, a ≤ 9 ∧ b ≤ 9 ∧ c ≤ 9 ∧ d ≤ 9 ∧ e ≤ 9 ∧ f ≤ 9 ∧ n = 100000 * a + 10000 * b + 1000 * c + 100 * d + 10 * e + f ∧ six n = [dg a, dg b, dg c, dg d, dg e, dg f] := by
  refine ⟨n / 100000, n / 10000 % 10, n / 1000 % 10, n / 100 % 10, n / 10 % 10, n % 10, by omega, by omega, by omega, by omega, by omega, by omega, ?_, rfl⟩
  have h1 : n = 10 * (n / 10) + n % 10 := by omega
  have h2 : n / 10 = 10 * (n / 100) + n / 10 % 10 := by omega
  have h3 : n / 100 = 10 * (n / 1000) + n / 100 % 10 := by omega
  have h4 : n / 1000 = 10 * (n / 10000) + n / 1000 % 10 := by omega
  have h5 : n / 10000 = 10 * (n / 100000) + n / 10000 % 10 := by omega
  generalize n / 100000 = x5 at *
  generalize n / 10000 % 10 = y4 at *
  generalize n / 10000 = x4 at *
  generalize n / 1000 % 10 = y3 at *
  generalize n / 1000 = x3 at *
  generalize n / 100 % 10 = y2 at *
  generalize n / 100 = x2 at *
  generalize n / 10 % 10 = y1 at *
  generalize n / 10 = x1 at *
  generalize n % 10 = y0 at *
  omega
theorem six_less (m n : Nat) (h : m < n) (hn : n ≤ 999999) : Op.bytesLess (six m) (six n) = true := by
  obtain ⟨a, b, c, d, e, f, _, _, _, _, _, _, hm, em⟩ := six_digits m (by omega)
  obtain ⟨a', b', c', d', e', f', _, _, _, _, _, _, hn', en⟩ := six_digits n hn
  rw [em, en]
  clear em en
  by_cases h1 : a < a'
  · exact less_lt _ _ _ _ (dg_lt _ _ h1 (by omega))
  obtain rfl : a = a' := by omega
  rw [less_cons]
  by_cases h2 : b < b'
  · exact less_lt _ _ _ _ (dg_lt _ _ h2 (by omega))
  obtain rfl : b = b' := by omega
  rw [less_cons]
  by_cases h3 : c < c'
  · exact less_lt _ _ _ _ (dg_lt _ _ h3 (by omega))
  obtain rfl : c = c' := by omega
  rw [less_cons]
  by_cases h4 : d < d'
  · exact less_lt _ _ _ _ (dg_lt _ _ h4 (by omega))
  obtain rfl : d = d' := by omega
  rw [less_cons]
  by_cases h5 : e < e'
  · exact less_lt _ _ _ _ (dg_lt _ _ h5 (by omega))
  obtain rfl : e = e' := by omega
  rw [less_cons]
  exact less_lt _ _ _ _ (dg_lt _ _ (by omega) (by omega))
end Go.Proofs.YteamemhimkpjiaaDoor
