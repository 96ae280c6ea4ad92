/- What varint.Zig and varint.Zag and the reference's answer, for every number. -/
import Derived.Test.YtenekcnccmghhabRows
import Derived.WalkKit
import Derived.ProofKit
import Derived.OpenShut
import Derived.WalkSpells
import Derived.WalkLawsBesides
import Derived.Laws.BitsAllLaws
import Derived.Below
namespace Go.Proofs.Ytenekcnccmghhab
open Go.ChangeShapes Go.WideShapes Go.ChangeAt Go.RowKit
theorem ret_int {k : IntKind} {a b : Int} (h : a = b) : Ending.returned (.int k a) = .returned (.int k b) := by rw [h]
theorem ret_bool {a b : Bool} (h : a = b) : Ending.returned (.bool a) = .returned (.bool b) := by rw [h]
def zig (v : Int) : Int := if 0 ≤ v then 2 * v else -2 * v - 1
def zag (u : Int) : Int := if u % 2 = 0 then u / 2 else -(u / 2) - 1
theorem xor_ones (n s : Nat) (h : s < 2 ^ n) : s ^^^ (2 ^ n - 1) = 2 ^ n - 1 - s := by
  have h1 : (2 ^ n - 1 - s) ^^^ s = 2 ^ n - 1 := by
    apply Nat.eq_of_testBit_eq
    intro i
    rw [Nat.testBit_xor, Nat.sub_sub, Nat.add_comm 1 s, Nat.testBit_two_pow_sub_succ h, Nat.testBit_two_pow_sub_one]
    by_cases hi : i < n
    · simp [hi]
    · have : s.testBit i = false := Nat.testBit_lt_two_pow (Nat.lt_of_lt_of_le h (Nat.pow_le_pow_right (by omega) (by omega)))
      simp [hi, this]
  have h2 := congrArg (· ^^^ s) h1
  simp only [Nat.xor_assoc, Nat.xor_self, Nat.xor_zero] at h2
  rw [h2, Nat.xor_comm]
theorem zig_val (v : Int) (h0 : -9223372036854775808 ≤ v) (h1 : v ≤ 9223372036854775807) :
    bits BinOp.xor IntKind.u64 (IntKind.u64.wrap (IntKind.u64.wrap v * 2)) (IntKind.u64.wrap (v / 9223372036854775808)) = zig v := by
  simp only [IntKind.wrap_u64]
  rw [u64_xor _ _ (by omega) (by omega) (by omega) (by omega)]
  unfold zig
  by_cases h : 0 ≤ v
  · rw [if_pos h]
    rw [show v / 9223372036854775808 = 0 from by omega]
    rw [show (0 % 18446744073709551616 : Int).toNat = 0 from rfl, Nat.xor_zero]
    omega
  · rw [if_neg h]
    rw [show v / 9223372036854775808 = -1 from by omega]
    rw [show (-1 % 18446744073709551616 : Int).toNat = 2 ^ 64 - 1 from by decide, xor_ones 64 _ (by omega)]
    omega
theorem wrap_i64 (n : Int) : IntKind.i64.wrap n = (n + 9223372036854775808) % 18446744073709551616 - 9223372036854775808 := by
  simp [IntKind.wrap, IntKind.bits, IntKind.signed]
  omega
theorem i64_xor_raw (a b : Int) : bits .xor .i64 a b = IntKind.i64.wrap (((a % 18446744073709551616).toNat ^^^ (b % 18446744073709551616).toNat : Nat) : Int) := by
  show IntKind.i64.wrap ((BitVec.ofInt 64 a ^^^ BitVec.ofInt 64 b).toNat : Int) = _
  rw [BitVec.toNat_xor, BitVec.toNat_ofInt, BitVec.toNat_ofInt]
  rfl
theorem zag_val (u : Int) (h0 : 0 ≤ u) (h1 : u ≤ 18446744073709551615) :
    bits BinOp.xor IntKind.i64 (u / 2) (wrap64 (-wrap64 (bits BinOp.and IntKind.u64 u 1))) = zag u := by
  rw [u64_and u 1 h0 (by omega) (by omega) (by omega)]
  rw [show (1 : Int).toNat = 1 from rfl, nat_mask1, i64_xor_raw, wrap_i64]
  unfold zag
  by_cases h : u % 2 = 0
  · rw [if_pos h, show u.toNat % 2 = 0 from by omega]
    rw [show wrap64 (-wrap64 ((0 : Nat) : Int)) = 0 from by simp [wrap64]]
    rw [show (0 % (18446744073709551616 : Int)).toNat = 0 from by decide, Nat.xor_zero]
    omega
  · rw [if_neg h, show u.toNat % 2 = 1 from by omega]
    rw [show wrap64 (-wrap64 ((1 : Nat) : Int)) = -1 from by simp [wrap64]]
    rw [show (-1 % (18446744073709551616 : Int)).toNat = 2 ^ 64 - 1 from by decide, xor_ones 64 _ (by omega)]
    omega
theorem zig_any (v : Int) (w : World) (h0 : -9223372036854775808 ≤ v) (h1 : v ≤ 9223372036854775807) :
    Calls Try.prog 16 #[.int .i64 v] w fun e w' => e = .returned (.int .u64 (zig v)) ∧ w' = w := by
  have hz : Hid (_ = _) := zig_val v h0 h1
  go_enter Try.func16, Try.ntmps16
  go_wp2
  go_ret
  exact ⟨ret_int hz.out, rfl⟩
theorem zag_any (u : Int) (w : World) (h0 : 0 ≤ u) (h1 : u ≤ 18446744073709551615) :
    Calls Try.prog 17 #[.int .u64 u] w fun e w' => e = .returned (.int .i64 (zag u)) ∧ w' = w := by
  have hz : Hid (_ = _) := zag_val u h0 h1
  go_enter Try.func17, Try.ntmps17
  go_wp2
  go_ret
  exact ⟨ret_int hz.out, rfl⟩
theorem rzig_any (v : Int) (w : World) (h0 : -9223372036854775808 ≤ v) (h1 : v ≤ 9223372036854775807) :
    Calls Try.prog 18 #[.int .i64 v] w fun e w' => e = .returned (.int .u64 (zig v)) ∧ w' = w := by
  by_cases h : 0 ≤ v
  · go_enter Try.func18, Try.ntmps18
    go_wp2
    go_ret
    exact ⟨ret_int (by unfold zig; rw [if_pos h]; omega), rfl⟩
  · go_enter Try.func18, Try.ntmps18
    go_wp2
    go_ret
    exact ⟨ret_int (by unfold zig; rw [if_neg (by omega)]; omega), rfl⟩
theorem rzag_any (u : Int) (w : World) (h0 : 0 ≤ u) (h1 : u ≤ 18446744073709551615) :
    Calls Try.prog 19 #[.int .u64 u] w fun e w' => e = .returned (.int .i64 (zag u)) ∧ w' = w := by
  by_cases h : u % 2 = 0
  · have hb : (u % 2 == 0) = true := by simpa using h
    have hz : Hid (zag u = u / 2) := by unfold zag; rw [if_pos h]; exact rfl
    clear h
    go_enter Try.func19, Try.ntmps19
    go_wp2
    go_ret
    exact ⟨ret_int hz.out.symm, rfl⟩
  · have hb : (u % 2 == 0) = false := by simpa using h
    have hz : Hid (zag u = -(u / 2) - 1) := by unfold zag; rw [if_neg h]; exact rfl
    clear h
    go_enter Try.func19, Try.ntmps19
    go_wp2
    go_ret
    exact ⟨ret_int hz.out.symm, rfl⟩
end Go.Proofs.Ytenekcnccmghhab
