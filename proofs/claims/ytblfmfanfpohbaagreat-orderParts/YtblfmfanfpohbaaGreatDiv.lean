/- What math/bits.LeadingZeros64, Mul64 and Div64 answer. -/
import Derived.Test.YtblfmfanfpohbaaGreatRows
import Derived.Test.YtblfmfanfpohbaaGreatLen
import Derived.Test.YtblfmfanfpohbaaGreatDivm
import Derived.Shelf.Bits.Mul64
import Derived.Laws.ShiftsVarLaws
import Derived.BigQuiet
import Derived.Deep.QuietTactic
namespace Go.Proofs.YtblfmfanfpohbaaGreat
open Go.ChangeShapes Go.WideShapes Go.ChangeAt Go.RowKit
theorem bitLen_pow (y : Nat) (h : 0 < y) (h1 : y < 18446744073709551616) : 1 ≤ bitLen y ∧ bitLen y ≤ 64 ∧ 9223372036854775808 ≤ y * 2 ^ (64 - bitLen y) ∧ y * 2 ^ (64 - bitLen y) < 18446744073709551616 := by
  have hl : bitLen y ≤ 64 := bitLen_lt y 64 (by omega)
  have h0 : bitLen y = Nat.log2 y + 1 := by unfold bitLen; rw [if_neg (by omega)]
  have a := Nat.log2_self_le (n := y) (by omega)
  have b := Nat.lt_log2_self (n := y)
  have e1 : 2 ^ Nat.log2 y * 2 ^ (64 - bitLen y) = 9223372036854775808 := by
    rw [← Nat.pow_add, show Nat.log2 y + (64 - bitLen y) = 63 from by omega]
  have e2 : 2 ^ (Nat.log2 y + 1) * 2 ^ (64 - bitLen y) = 18446744073709551616 := by
    rw [← Nat.pow_add, show Nat.log2 y + 1 + (64 - bitLen y) = 64 from by omega]
  refine ⟨by omega, hl, ?_, ?_⟩
  · rw [← e1]; exact Nat.mul_le_mul_right _ a
  · rw [← e2]; exact Nat.mul_lt_mul_of_pos_right b (Nat.pow_pos (by omega))
theorem lz_any (y s : Nat) (w : World) (h1 : y < 18446744073709551616) (hs : bitLen y + s = 64) :
    Calls Tryz.prog 81 #[.int .u64 (y : Int)] w fun e w' => e = .returned (.int .i64 (s : Int)) ∧ w = w' := by
  go_enter Tryz.func81, Tryz.ntmps81
  go_wp2_with (go_at_call 100; refine (len_any (y : Int) w (by omega) (by omega)).mono ?_; rintro e w1 ⟨rfl, rfl⟩)
  go_ret
  refine ⟨ret_int ?_, rfl⟩
  omega
set_option maxHeartbeats 1000000 in
theorem mul64_any (x y : Nat) (hx : x < 18446744073709551616) (hy : y < 18446744073709551616) (w : World) :
    Calls Tryz.prog 43 #[.int .u64 x, .int .u64 y] w fun e w' => e = .returned (.tuple #[.int .u64 ((x * y / 18446744073709551616 : Nat) : Int), .int .u64 ((x * y % 18446744073709551616 : Nat) : Int)]) ∧ w = w' := by
  obtain ⟨bd, bt, bw, hhi⟩ := Lib.mul64_hi x y hx hy
  have ba := Lib.half_mul_le (a := x / 4294967296) (b := y / 4294967296) (by omega) (by omega)
  have bb := Lib.half_mul_le (a := x / 4294967296) (b := y % 4294967296) (by omega) (by omega)
  have bc := Lib.half_mul_le (a := x % 4294967296) (b := y / 4294967296) (by omega) (by omega)
  have ba' : x / 4294967296 * (y / 4294967296) < 18446744073709551616 := by omega
  have bb' : x / 4294967296 * (y % 4294967296) < 18446744073709551616 := by omega
  have bc' : x % 4294967296 * (y / 4294967296) < 18446744073709551616 := by omega
  have bh1 : x / 4294967296 * (y / 4294967296) + (x / 4294967296 * (y % 4294967296) + x % 4294967296 * (y % 4294967296) / 4294967296) / 4294967296 < 18446744073709551616 := by omega
  have bh : x / 4294967296 * (y / 4294967296) + (x / 4294967296 * (y % 4294967296) + x % 4294967296 * (y % 4294967296) / 4294967296) / 4294967296 + ((x / 4294967296 * (y % 4294967296) + x % 4294967296 * (y % 4294967296) / 4294967296) % 4294967296 + x % 4294967296 * (y / 4294967296)) / 4294967296 < 18446744073709551616 := by omega
  go_enter Tryz.func43, Tryz.ntmps43
  go_wp2
  simp only [Mul64.maskN x hx, Mul64.maskN y hy, Mul64.divN, Mul64.mulN, Mul64.addN, Mul64.wrapN _ bd, Mul64.wrapN _ bb', Mul64.wrapN _ bt, Mul64.maskN _ bt, Mul64.wrapN _ bc', Mul64.wrapN _ bw, Mul64.wrapN _ ba', Mul64.wrapN _ bh1, Mul64.wrapN _ bh, Mul64.wrapM (x * y)]
  rw [hhi]
  go_ret2
  exact ⟨rfl, rfl⟩
/-- all the numbers of the division -/
structure DivF (hi lo y s Y yn1 yn0 U L n1 n0 g1 r1 D1 M g0 r0 D0 Q R : Nat) : Prop where
  hY : Y = yn1 * 4294967296 + yn0
  h0 : yn0 < 4294967296
  h1 : yn1 < 4294967296
  h2 : 4294967296 ≤ 2 * yn1
  hU : U < Y
  hn1 : n1 < 4294967296
  hn0 : n0 < 4294967296
  hg1 : g1 = U / yn1
  hr1 : r1 = U % yn1
  hD1 : D1 = (U * 4294967296 + n1) / Y
  hM : M < Y
  hg0 : g0 = M / yn1
  hr0 : r0 = M % yn1
  hD0 : D0 = (M * 4294967296 + n0) / Y
  hQ : Q = (hi * 18446744073709551616 + lo) / y
  hR : R / 2 ^ s = (hi * 18446744073709551616 + lo) % y
theorem wrap_nat (a : Nat) (h : a < 18446744073709551616) : IntKind.u64.wrap (a : Int) = (a : Int) := by rw [IntKind.wrap_u64]; omega
theorem tdiv_nat (a b : Nat) (h : a < 18446744073709551616) : IntKind.u64.wrap ((a : Int) / (b : Int)) = ((a / b : Nat) : Int) := by
  rw [← Int.natCast_ediv, wrap_nat _ (Nat.lt_of_le_of_lt (Nat.div_le_self a b) h)]
theorem rest_nat (a b : Nat) (h : a < 18446744073709551616) : IntKind.u64.wrap ((a : Int) - IntKind.u64.wrap (((a / b : Nat) : Int) * (b : Int))) = ((a % b : Nat) : Int) := by
  have e := Nat.div_add_mod a b
  rw [Nat.mul_comm] at e
  rw [← Int.natCast_mul, wrap_nat _ (by omega), IntKind.wrap_u64]
  have := Nat.mod_le a b
  omega
theorem rest2 (u n q y : Nat) (hq : q = (u * 4294967296 + n) / y) (hy : y ≤ 18446744073709551616) (h0 : 0 < y) :
    IntKind.u64.wrap (IntKind.u64.wrap (IntKind.u64.wrap ((u : Int) * 4294967296) + (n : Int)) - IntKind.u64.wrap ((q : Int) * (y : Int))) = (((u * 4294967296 + n) % y : Nat) : Int) := by
  simp only [IntKind.wrap_u64]
  exact Divm.rest_wrap (K := 4294967296) hq hy h0
theorem lo_split (lo p p2 l1 l2 : Nat) (hpp : p2 * p = 18446744073709551616) (hp : 0 < p) (hq : 0 < p2) (hlo : lo < 18446744073709551616) (hl1 : lo / p2 = l1) (hl2 : lo % p2 * p = l2) :
    lo * p = l1 * 18446744073709551616 + l2 ∧ l2 < 18446744073709551616 ∧ l1 < p := by
  refine ⟨?_, ?_, ?_⟩
  · have := Nat.div_add_mod lo p2
    rw [← hl1, ← hl2, ← hpp, ← Nat.mul_assoc, ← Nat.add_mul, Nat.mul_comm (lo / p2), this]
  · rw [← hl2, ← hpp]; exact Nat.mul_lt_mul_of_pos_right (Nat.mod_lt _ hq) hp
  · rw [← hl1, Nat.div_lt_iff_lt_mul hq, Nat.mul_comm, hpp]; exact hlo
theorem hi_split (hi lo y p l1 l2 U Y : Nat) (h : hi < y) (hlop : lo * p = l1 * 18446744073709551616 + l2) (hl : l1 < p) (hU : hi * p + l1 = U) (hY : y * p = Y) :
    U < Y ∧ (hi * 18446744073709551616 + lo) * p = (U * 4294967296 + l2 / 4294967296) * 4294967296 + l2 % 4294967296 ∧ hi * p < Y := by
  have h1 : (hi + 1) * p ≤ y * p := Nat.mul_le_mul_right _ h
  rw [Nat.add_mul, Nat.one_mul] at h1
  refine ⟨by omega, ?_, by omega⟩
  rw [Nat.add_mul, hlop, Nat.mul_right_comm]; omega
theorem or_join (hi p l1 s : Nat) (hp : 2 ^ s = p) (hl : l1 < p) (h : hi * p + l1 < 18446744073709551616) : bits .or .u64 (IntKind.u64.wrap ((hi : Int) * p)) (l1 : Int) = ((hi * p + l1 : Nat) : Int) := by
  rw [← Int.natCast_mul, wrap_nat _ (by omega), u64_or_nat _ _ (by omega) (by omega), nat_join s _ _ (by rw [hp]; exact Nat.mul_mod_left _ _) (by rw [hp]; exact hl)]
theorem q_join (D1 D0 : Nat) (h1 : D1 < 4294967296) (h0 : D0 < 4294967296) : IntKind.u64.wrap (IntKind.u64.wrap ((D1 : Int) * 4294967296) + (D0 : Int)) = ((D1 * 4294967296 + D0 : Nat) : Int) := by
  simp only [IntKind.wrap_u64]; omega
theorem div_facts (hi lo y s p p2 : Nat) (h : hi < y) (hlo : lo < 18446744073709551616) (hp_ : 2 ^ s = p) (hq_ : 2 ^ (64 - s) = p2) (hpp : p2 * p = 18446744073709551616) (hy0 : 9223372036854775808 ≤ y * p) (hy1 : y * p < 18446744073709551616) :
    ∃ Y yn1 yn0 U L n1 n0 g1 r1 D1 M g0 r0 D0 Q R : Nat, DivF hi lo y s Y yn1 yn0 U L n1 n0 g1 r1 D1 M g0 r0 D0 Q R ∧
      IntKind.u64.wrap ((y : Int) * 2 ^ s) = (Y : Int) ∧ (Y : Int) / 4294967296 = (yn1 : Int) ∧ bits .and .u64 (Y : Int) 4294967295 = (yn0 : Int) ∧
      bits .or .u64 (IntKind.u64.wrap ((hi : Int) * 2 ^ s)) ((lo : Int) / 2 ^ (64 - s)) = (U : Int) ∧ IntKind.u64.wrap ((lo : Int) * 2 ^ s) = (L : Int) ∧
      (L : Int) / 4294967296 = (n1 : Int) ∧ bits .and .u64 (L : Int) 4294967295 = (n0 : Int) ∧ IntKind.u64.wrap ((U : Int) / (yn1 : Int)) = (g1 : Int) ∧
      IntKind.u64.wrap ((U : Int) - IntKind.u64.wrap ((g1 : Int) * (yn1 : Int))) = (r1 : Int) ∧
      IntKind.u64.wrap (IntKind.u64.wrap (IntKind.u64.wrap ((U : Int) * 4294967296) + (n1 : Int)) - IntKind.u64.wrap ((D1 : Int) * (Y : Int))) = (M : Int) ∧
      IntKind.u64.wrap ((M : Int) / (yn1 : Int)) = (g0 : Int) ∧ IntKind.u64.wrap ((M : Int) - IntKind.u64.wrap ((g0 : Int) * (yn1 : Int))) = (r0 : Int) ∧
      IntKind.u64.wrap (IntKind.u64.wrap (IntKind.u64.wrap ((M : Int) * 4294967296) + (n0 : Int)) - IntKind.u64.wrap ((D0 : Int) * (Y : Int))) = (R : Int) ∧
      IntKind.u64.wrap (IntKind.u64.wrap ((D1 : Int) * 4294967296) + (D0 : Int)) = (Q : Int) ∧ IntKind.u64.wrap ((D1 : Int) * 4294967296 + (D0 : Int)) = (Q : Int) := by
  have hp : 0 < p := by rw [← hp_]; exact Nat.pow_pos (by omega)
  have hq : 0 < p2 := by rw [← hq_]; exact Nat.pow_pos (by omega)
  have hcast : ((2 : Int) ^ s) = (p : Int) := by rw [← hp_]; simp
  have hcast2 : ((2 : Int) ^ (64 - s)) = (p2 : Int) := by rw [← hq_]; simp
  obtain ⟨l1, hl1⟩ : ∃ x, lo / p2 = x := ⟨_, rfl⟩
  obtain ⟨l2, hl2⟩ : ∃ x, lo % p2 * p = x := ⟨_, rfl⟩
  obtain ⟨U, hU⟩ : ∃ x, hi * p + l1 = x := ⟨_, rfl⟩
  obtain ⟨Y, hY⟩ : ∃ x, y * p = x := ⟨_, rfl⟩
  obtain ⟨hlop, hl2lt, hl1lt⟩ := lo_split lo p p2 l1 l2 hpp hp hq hlo hl1 hl2
  obtain ⟨hUY, hN, hhp⟩ := hi_split hi lo y p l1 l2 U Y h hlop hl1lt hU hY
  rw [hY] at hy0 hy1
  have hYpos : 0 < Y := by omega
  obtain ⟨n1, hn1⟩ : ∃ x, x = l2 / 4294967296 := ⟨_, rfl⟩
  obtain ⟨n0, hn0⟩ : ∃ x, x = l2 % 4294967296 := ⟨_, rfl⟩
  obtain ⟨yn1, hyn1⟩ : ∃ x, x = Y / 4294967296 := ⟨_, rfl⟩
  obtain ⟨yn0, hyn0⟩ : ∃ x, x = Y % 4294967296 := ⟨_, rfl⟩
  rw [← hn1, ← hn0] at hN
  obtain ⟨D1, hD1⟩ : ∃ x, x = (U * 4294967296 + n1) / Y := ⟨_, rfl⟩
  obtain ⟨M, hM⟩ : ∃ x, x = (U * 4294967296 + n1) % Y := ⟨_, rfl⟩
  obtain ⟨D0, hD0⟩ : ∃ x, x = (M * 4294967296 + n0) / Y := ⟨_, rfl⟩
  obtain ⟨R, hR⟩ : ∃ x, x = (M * 4294967296 + n0) % Y := ⟨_, rfl⟩
  have hMlt : M < Y := by rw [hM]; exact Nat.mod_lt _ hYpos
  have d1 : D1 < 4294967296 := by rw [hD1]; exact Divm.digit_lt hUY (by omega)
  have d0 : D0 < 4294967296 := by rw [hD0]; exact Divm.digit_lt hMlt (by omega)
  have hb := Divm.both (K := 4294967296) (N := hi * 18446744073709551616 + lo) (y := y) (p := p) (m := M) (r := R) (q1 := D1) (q0 := D0) hp (by omega) hN (by rw [hY]; exact hM.symm) (by rw [hY]; exact hR.symm) (by rw [hY]; exact hD1) (by rw [hY]; exact hD0)
  have c1 := rest2 U n1 D1 Y hD1 (by omega) hYpos
  have c0 := rest2 M n0 D0 Y hD0 (by omega) hYpos
  rw [← hM] at c1
  rw [← hR] at c0
  refine ⟨Y, yn1, yn0, U, l2, n1, n0, U / yn1, U % yn1, D1, M, M / yn1, M % yn1, D0, (hi * 18446744073709551616 + lo) / y, R,
    ⟨by omega, by omega, by omega, by omega, hUY, by omega, by omega, rfl, rfl, hD1, hMlt, rfl, rfl, hD0, rfl, by rw [hp_]; exact hb.2⟩, ?_, by omega, ?_, ?_, ?_, by omega, ?_, tdiv_nat _ _ (by omega), rest_nat _ _ (by omega), c1, tdiv_nat _ _ (by omega), rest_nat _ _ (by omega), c0, ?_, ?_⟩
  · rw [hcast, ← Int.natCast_mul, hY, wrap_nat _ hy1]
  · rw [hyn0]; exact Mul64.maskN Y hy1
  · rw [hcast, hcast2, ← Int.natCast_ediv, hl1, ← hU]; exact or_join hi p l1 s hp_ hl1lt (by omega)
  · rw [hcast, ← Int.natCast_mul, hlop, IntKind.wrap_u64]; omega
  · rw [hn0]; exact Mul64.maskN l2 hl2lt
  · rw [← hb.1]; exact q_join D1 D0 d1 d0
  · rw [← hb.1, IntKind.wrap_u64]; omega
theorem wrap_less {D q : Nat} (h : D < q) (h1 : q ≤ 4294967297) : IntKind.u64.wrap ((q : Int) - 1) = ((q - 1 : Nat) : Int) := by rw [IntKind.wrap_u64]; omega
section
variable {hi lo y s Y yn1 yn0 U L n1 n0 g1 r1 D1 M g0 r0 D0 Q R : Nat}
theorem DivF.up (F : DivF hi lo y s Y yn1 yn0 U L n1 n0 g1 r1 D1 M g0 r0 D0 Q R) {r : Nat} (h : r < 4294967296) : IntKind.u64.wrap ((r : Int) + (yn1 : Int)) = ((r + yn1 : Nat) : Int) := by
  have := F.h1
  rw [IntKind.wrap_u64]; omega
theorem DivF.prod (F : DivF hi lo y s Y yn1 yn0 U L n1 n0 g1 r1 D1 M g0 r0 D0 Q R) {q : Nat} (h : ¬ 4294967296 ≤ q) : IntKind.u64.wrap ((q : Int) * (yn0 : Int)) = ((q * yn0 : Nat) : Int) := by
  have := Lib.half_mul_le (a := q) (b := yn0) (by omega) (by have := F.h0; omega)
  rw [← Int.natCast_mul, wrap_nat _ (by omega)]
theorem DivF.startD1 (F : DivF hi lo y s Y yn1 yn0 U L n1 n0 g1 r1 D1 M g0 r0 D0 Q R) : Hid (g1 * yn1 + r1 = U ∧ r1 < 4294967296 ∧ D1 ≤ g1 ∧ g1 ≤ 4294967297) := by
  have a := Nat.div_add_mod U yn1
  rw [Nat.mul_comm] at a
  have b := Nat.mod_lt U (show 0 < yn1 from by have := F.h2; omega)
  have c := F.h1
  refine ⟨by rw [F.hg1, F.hr1]; exact a, by rw [F.hr1]; omega, by rw [F.hg1, F.hD1]; exact Divm.first_ge F.hY F.hn1 (by have := F.h2; omega) (by omega), by rw [F.hg1]; exact Divm.first_le F.hY F.hU F.h0 F.h2 (by omega)⟩
theorem DivF.overD1 (F : DivF hi lo y s Y yn1 yn0 U L n1 n0 g1 r1 D1 M g0 r0 D0 Q R) {q r : Nat} (H : q * yn1 + r = U ∧ r < 4294967296 ∧ D1 ≤ q ∧ q ≤ 4294967297) (h : 4294967296 ≤ q ∨ 4294967296 * r + n1 < q * yn0) : D1 < q := by
  rw [F.hD1]
  exact Divm.over F.hY H.1 F.hU F.hn1 h
theorem DivF.brokeD1 (F : DivF hi lo y s Y yn1 yn0 U L n1 n0 g1 r1 D1 M g0 r0 D0 Q R) {q r : Nat} (H : q * yn1 + r = U ∧ r < 4294967296 ∧ D1 ≤ q ∧ q ≤ 4294967297) (hv : D1 < q) (hb : 4294967296 ≤ r + yn1) : IntKind.u64.wrap ((q : Int) - 1) = (D1 : Int) := by
  have h1 := Divm.broke (n := n1) F.hY (Divm.less (by omega) H.1) F.hU (by have := H.2.2.2; omega) F.h0 hb
  rw [← F.hD1] at h1
  rw [wrap_less hv H.2.2.2]
  have : q - 1 = D1 := by omega
  rw [this]
theorem DivF.nextD1 (_ : DivF hi lo y s Y yn1 yn0 U L n1 n0 g1 r1 D1 M g0 r0 D0 Q R) {q r : Nat} (H : q * yn1 + r = U ∧ r < 4294967296 ∧ D1 ≤ q ∧ q ≤ 4294967297) (hv : D1 < q) (hb : ¬ 4294967296 ≤ r + yn1) : Hid ((q - 1) * yn1 + (r + yn1) = U ∧ r + yn1 < 4294967296 ∧ D1 ≤ q - 1 ∧ q - 1 ≤ 4294967297) :=
  ⟨Divm.less (by omega) H.1, by omega, by omega, by have := H.2.2.2; omega⟩
theorem DivF.sideD1 (F : DivF hi lo y s Y yn1 yn0 U L n1 n0 g1 r1 D1 M g0 r0 D0 Q R) {r : Nat} (h : r < 4294967296) : IntKind.u64.wrap (IntKind.u64.wrap (4294967296 * (r : Int)) + (n1 : Int)) = ((4294967296 * r + n1 : Nat) : Int) := by
  have := F.hn1
  simp only [IntKind.wrap_u64]
  omega
theorem DivF.exactD1 (F : DivF hi lo y s Y yn1 yn0 U L n1 n0 g1 r1 D1 M g0 r0 D0 Q R) {q r : Nat} (H : q * yn1 + r = U ∧ r < 4294967296 ∧ D1 ≤ q ∧ q ≤ 4294967297) (h : ¬ 4294967296 * r + n1 < q * yn0) : D1 = q := by
  have h1 := Divm.under (n := n1) F.hY H.1 F.hU (by omega)
  rw [← F.hD1] at h1
  omega
theorem DivF.startD0 (F : DivF hi lo y s Y yn1 yn0 U L n1 n0 g1 r1 D1 M g0 r0 D0 Q R) : Hid (g0 * yn1 + r0 = M ∧ r0 < 4294967296 ∧ D0 ≤ g0 ∧ g0 ≤ 4294967297) := by
  have a := Nat.div_add_mod M yn1
  rw [Nat.mul_comm] at a
  have b := Nat.mod_lt M (show 0 < yn1 from by have := F.h2; omega)
  have c := F.h1
  refine ⟨by rw [F.hg0, F.hr0]; exact a, by rw [F.hr0]; omega, by rw [F.hg0, F.hD0]; exact Divm.first_ge F.hY F.hn0 (by have := F.h2; omega) (by omega), by rw [F.hg0]; exact Divm.first_le F.hY F.hM F.h0 F.h2 (by omega)⟩
theorem DivF.overD0 (F : DivF hi lo y s Y yn1 yn0 U L n1 n0 g1 r1 D1 M g0 r0 D0 Q R) {q r : Nat} (H : q * yn1 + r = M ∧ r < 4294967296 ∧ D0 ≤ q ∧ q ≤ 4294967297) (h : 4294967296 ≤ q ∨ 4294967296 * r + n0 < q * yn0) : D0 < q := by
  rw [F.hD0]
  exact Divm.over F.hY H.1 F.hM F.hn0 h
theorem DivF.brokeD0 (F : DivF hi lo y s Y yn1 yn0 U L n1 n0 g1 r1 D1 M g0 r0 D0 Q R) {q r : Nat} (H : q * yn1 + r = M ∧ r < 4294967296 ∧ D0 ≤ q ∧ q ≤ 4294967297) (hv : D0 < q) (hb : 4294967296 ≤ r + yn1) : IntKind.u64.wrap ((q : Int) - 1) = (D0 : Int) := by
  have h1 := Divm.broke (n := n0) F.hY (Divm.less (by omega) H.1) F.hM (by have := H.2.2.2; omega) F.h0 hb
  rw [← F.hD0] at h1
  rw [wrap_less hv H.2.2.2]
  have : q - 1 = D0 := by omega
  rw [this]
theorem DivF.nextD0 (_ : DivF hi lo y s Y yn1 yn0 U L n1 n0 g1 r1 D1 M g0 r0 D0 Q R) {q r : Nat} (H : q * yn1 + r = M ∧ r < 4294967296 ∧ D0 ≤ q ∧ q ≤ 4294967297) (hv : D0 < q) (hb : ¬ 4294967296 ≤ r + yn1) : Hid ((q - 1) * yn1 + (r + yn1) = M ∧ r + yn1 < 4294967296 ∧ D0 ≤ q - 1 ∧ q - 1 ≤ 4294967297) :=
  ⟨Divm.less (by omega) H.1, by omega, by omega, by have := H.2.2.2; omega⟩
theorem DivF.sideD0 (F : DivF hi lo y s Y yn1 yn0 U L n1 n0 g1 r1 D1 M g0 r0 D0 Q R) {r : Nat} (h : r < 4294967296) : IntKind.u64.wrap (IntKind.u64.wrap (4294967296 * (r : Int)) + (n0 : Int)) = ((4294967296 * r + n0 : Nat) : Int) := by
  have := F.hn0
  simp only [IntKind.wrap_u64]
  omega
theorem DivF.exactD0 (F : DivF hi lo y s Y yn1 yn0 U L n1 n0 g1 r1 D1 M g0 r0 D0 Q R) {q r : Nat} (H : q * yn1 + r = M ∧ r < 4294967296 ∧ D0 ≤ q ∧ q ≤ 4294967297) (h : ¬ 4294967296 * r + n0 < q * yn0) : D0 = q := by
  have h1 := Divm.under (n := n0) F.hY H.1 F.hM (by omega)
  rw [← F.hD0] at h1
  omega
end
theorem ret2 {a b a' b' : Int} {j k : IntKind} (h1 : a = a') (h2 : b = b') : Ending.returned (.tuple #[.int j a, .int k b]) = .returned (.tuple #[.int j a', .int k b']) := by rw [h1, h2]
theorem DivF.fin {hi lo y s Y yn1 yn0 U L n1 n0 g1 r1 D1 M g0 r0 D0 Q R : Nat} (F : DivF hi lo y s Y yn1 yn0 U L n1 n0 g1 r1 D1 M g0 r0 D0 Q R) :
    Ending.returned (.tuple #[.int .u64 (Q : Int), .int .u64 ((R : Int) / 2 ^ s)]) = .returned (.tuple #[.int .u64 (((hi * 18446744073709551616 + lo) / y : Nat) : Int), .int .u64 (((hi * 18446744073709551616 + lo) % y : Nat) : Int)]) := by
  rw [← F.hQ, ← F.hR]
  simp
set_option maxRecDepth 100000 in
set_option maxHeartbeats 4000000 in
theorem div64_any (hi lo y : Nat) (w : World) (h : hi < y) (h1 : y < 18446744073709551616) (h2 : lo < 18446744073709551616) :
    Calls Tryz.prog 44 #[.int .u64 (hi : Int), .int .u64 (lo : Int), .int .u64 (y : Int)] w fun e w' =>
      ∃ n, e = .returned (.tuple #[.int .u64 (((hi * 18446744073709551616 + lo) / y : Nat) : Int), .int .u64 (((hi * 18446744073709551616 + lo) % y : Nat) : Int)]) ∧ w' = w.drewN n := by
  by_cases hz : hi = 0
  · subst hz
    have hyb : ((y : Int) == 0) = false := by simp; omega
    have hyn : ¬ (y : Int) = 0 := by omega
    go_enter Tryz.func44, Tryz.ntmps44
    go_wp2
    go_quiet (fail)
    go_wp2
    go_ret2
    exact ⟨_, ret2 (by rw [tdiv_nat _ _ h2, Nat.zero_mul, Nat.zero_add]) (by rw [Nat.zero_mul, Nat.zero_add, Int.natCast_emod]), rfl⟩
  · have hzb : ((hi : Int) == 0) = false := by simp; omega
    have hyb : ((y : Int) == 0) = false := by simp; omega
    have hyn : ¬ y ≤ hi := by omega
    obtain ⟨s, hs⟩ : ∃ s, bitLen y + s = 64 := ⟨64 - bitLen y, by have := bitLen_pow y (by omega) h1; omega⟩
    have hs63 : s ≤ 63 := by have := bitLen_pow y (by omega) h1; omega
    obtain ⟨_, _, hy0, hy1⟩ := bitLen_pow y (by omega) h1
    rw [show 64 - bitLen y = s from by omega] at hy0 hy1
    obtain ⟨Y, yn1, yn0, U, L, n1, n0, g1, r1, D1, M, g0, r0, D0, Q, R, F0, e1, e2, e3, e4, e5, e6, e7, e8, e9, e10, e11, e12, e13, e14, e15⟩ := div_facts hi lo y s _ _ h h2 rfl rfl (by rw [← Nat.pow_add, show 64 - s + s = 64 from by omega]) hy0 hy1
    have F : Hid (DivF hi lo y s Y yn1 yn0 U L n1 n0 g1 r1 D1 M g0 r0 D0 Q R) := F0
    have hn1 : ¬ (yn1 : Int) = 0 := by have := F0.h2; omega
    have hn2 : ((yn1 : Int) == 0) = false := by simp; have := F0.h2; omega
    have HS : Hid (bitLen y + s = 64) := hs
    clear F0 hs hy0 hy1 h h2 hz
    go_enter Tryz.func44, Tryz.ntmps44
    go_wp2_with (go_at_call 81; refine (lz_any y s w h1 HS.out).mono ?_; rintro e w1 ⟨rfl, rfl⟩)
    go_loop [15, 16] (fun vq vr => ∃ q r : Int, vq = .int .u64 q ∧ vr = .int .u64 r ∧ Hid (∃ qn rn : Nat, q = qn ∧ r = rn ∧ qn * yn1 + rn = U ∧ rn < 4294967296 ∧ D1 ≤ qn ∧ qn ≤ 4294967297)) (fun vq _ => (intOf vq).toNat)
    case atStart => exact ⟨g1, r1, rfl, rfl, g1, r1, rfl, rfl, F.out.startD1⟩
    case round =>
      obtain ⟨q, r, rfl, rfl, HQ0⟩ := hrel
      obtain ⟨qn, rn, hq0, hr0, hq1⟩ := HQ0.out
      have EQ : Hid (q = (qn : Int)) := hq0
      have ER : Hid (r = (rn : Int)) := hr0
      have HQ : Hid (_ ∧ _) := hq1
      clear HQ0 hq0 hr0 hq1
      by_cases hA : 4294967296 ≤ q
      · obtain ⟨r2, HR2⟩ : ∃ r2 : Int, Hid (r2 = ((rn + yn1 : Nat) : Int)) := ⟨_, rfl⟩
        obtain ⟨q2, HQ2⟩ : ∃ q2 : Int, Hid (q2 = ((qn - 1 : Nat) : Int)) := ⟨_, rfl⟩
        have fr : IntKind.u64.wrap (r + (yn1 : Int)) = r2 := by rw [HR2.out, ER.out]; exact F.out.up HQ.out.2.1
        have HV : Hid (D1 < qn) := F.out.overD1 HQ.out (.inl (by have := EQ.out; omega))
        by_cases hbr : 4294967296 ≤ r2
        · have fq : IntKind.u64.wrap (q - 1) = (D1 : Int) := by rw [EQ.out]; exact F.out.brokeD1 HQ.out HV.out (by have := HR2.out; omega)
          clear HQ HV
          go_wp2
          go_loop [18, 16] (fun vq vr => ∃ q r : Int, vq = .int .u64 q ∧ vr = .int .u64 r ∧ Hid (∃ qn rn : Nat, q = qn ∧ r = rn ∧ qn * yn1 + rn = M ∧ rn < 4294967296 ∧ D0 ≤ qn ∧ qn ≤ 4294967297)) (fun vq _ => (intOf vq).toNat)
          case atStart => exact ⟨g0, r0, rfl, rfl, g0, r0, rfl, rfl, F.out.startD0⟩
          case round =>
            obtain ⟨q, r, rfl, rfl, HQ0⟩ := hrel
            obtain ⟨qn, rn, hq0, hr0, hq1⟩ := HQ0.out
            have EQ : Hid (q = (qn : Int)) := hq0
            have ER : Hid (r = (rn : Int)) := hr0
            have HQ : Hid (_ ∧ _) := hq1
            clear HQ0 hq0 hr0 hq1
            by_cases hA : 4294967296 ≤ q
            · obtain ⟨r2, HR2⟩ : ∃ r2 : Int, Hid (r2 = ((rn + yn1 : Nat) : Int)) := ⟨_, rfl⟩
              obtain ⟨q2, HQ2⟩ : ∃ q2 : Int, Hid (q2 = ((qn - 1 : Nat) : Int)) := ⟨_, rfl⟩
              have fr : IntKind.u64.wrap (r + (yn1 : Int)) = r2 := by rw [HR2.out, ER.out]; exact F.out.up HQ.out.2.1
              have HV : Hid (D0 < qn) := F.out.overD0 HQ.out (.inl (by have := EQ.out; omega))
              by_cases hbr : 4294967296 ≤ r2
              · have fq : IntKind.u64.wrap (q - 1) = (D0 : Int) := by rw [EQ.out]; exact F.out.brokeD0 HQ.out HV.out (by have := HR2.out; omega)
                clear HQ HV
                go_wp2
                go_ret2
                exact ⟨F.out.fin, ⟨0, rfl⟩⟩
              · have fq : IntKind.u64.wrap (q - 1) = q2 := by rw [HQ2.out, EQ.out]; exact wrap_less HV.out HQ.out.2.2.2
                go_wp2
                go_round
                case rel => exact ⟨q2, r2, rfl, rfl, qn - 1, rn + yn1, HQ2.out, HR2.out, F.out.nextD0 HQ.out HV.out (by have := HR2.out; omega)⟩
                case measure => have h9 := HV.out; have h8 := HQ2.out; have h7 := EQ.out; first | (simp [intOf]; done) | (simp [intOf]; omega) | (simp [intOf, fq]; omega)
            · obtain ⟨P, HP⟩ : ∃ P : Int, Hid (P = ((qn * yn0 : Nat) : Int)) := ⟨_, rfl⟩
              obtain ⟨T, HT⟩ : ∃ T : Int, Hid (T = ((4294967296 * rn + n0 : Nat) : Int)) := ⟨_, rfl⟩
              have f1 : IntKind.u64.wrap (q * (yn0 : Int)) = P := by rw [HP.out, EQ.out]; exact F.out.prod (by have := EQ.out; omega)
              have f2 : IntKind.u64.wrap (IntKind.u64.wrap (4294967296 * r) + (n0 : Int)) = T := by rw [HT.out, ER.out]; exact F.out.sideD0 HQ.out.2.1
              by_cases hB : T < P
              · obtain ⟨r2, HR2⟩ : ∃ r2 : Int, Hid (r2 = ((rn + yn1 : Nat) : Int)) := ⟨_, rfl⟩
                obtain ⟨q2, HQ2⟩ : ∃ q2 : Int, Hid (q2 = ((qn - 1 : Nat) : Int)) := ⟨_, rfl⟩
                have fr : IntKind.u64.wrap (r + (yn1 : Int)) = r2 := by rw [HR2.out, ER.out]; exact F.out.up HQ.out.2.1
                have HV : Hid (D0 < qn) := F.out.overD0 HQ.out (.inr (by have h1 := HP.out; have h2 := HT.out; omega))
                by_cases hbr : 4294967296 ≤ r2
                · have fq : IntKind.u64.wrap (q - 1) = (D0 : Int) := by rw [EQ.out]; exact F.out.brokeD0 HQ.out HV.out (by have := HR2.out; omega)
                  clear HQ HV
                  go_wp2
                  go_ret2
                  exact ⟨F.out.fin, ⟨0, rfl⟩⟩
                · have fq : IntKind.u64.wrap (q - 1) = q2 := by rw [HQ2.out, EQ.out]; exact wrap_less HV.out HQ.out.2.2.2
                  go_wp2
                  go_round
                  case rel => exact ⟨q2, r2, rfl, rfl, qn - 1, rn + yn1, HQ2.out, HR2.out, F.out.nextD0 HQ.out HV.out (by have := HR2.out; omega)⟩
                  case measure => have h9 := HV.out; have h8 := HQ2.out; have h7 := EQ.out; first | (simp [intOf]; done) | (simp [intOf]; omega) | (simp [intOf, fq]; omega)
              · have hE : D0 = qn := F.out.exactD0 HQ.out (by have h1 := HP.out; have h2 := HT.out; omega)
                have hE2 : q = (D0 : Int) := by rw [EQ.out, hE]
                subst hE2
                clear HQ EQ hE
                go_wp2
                go_ret2
                exact ⟨F.out.fin, ⟨0, rfl⟩⟩
        · have fq : IntKind.u64.wrap (q - 1) = q2 := by rw [HQ2.out, EQ.out]; exact wrap_less HV.out HQ.out.2.2.2
          go_wp2
          go_round
          case rel => exact ⟨q2, r2, rfl, rfl, qn - 1, rn + yn1, HQ2.out, HR2.out, F.out.nextD1 HQ.out HV.out (by have := HR2.out; omega)⟩
          case measure => have h9 := HV.out; have h8 := HQ2.out; have h7 := EQ.out; first | (simp [intOf]; done) | (simp [intOf]; omega) | (simp [intOf, fq]; omega)
      · obtain ⟨P, HP⟩ : ∃ P : Int, Hid (P = ((qn * yn0 : Nat) : Int)) := ⟨_, rfl⟩
        obtain ⟨T, HT⟩ : ∃ T : Int, Hid (T = ((4294967296 * rn + n1 : Nat) : Int)) := ⟨_, rfl⟩
        have f1 : IntKind.u64.wrap (q * (yn0 : Int)) = P := by rw [HP.out, EQ.out]; exact F.out.prod (by have := EQ.out; omega)
        have f2 : IntKind.u64.wrap (IntKind.u64.wrap (4294967296 * r) + (n1 : Int)) = T := by rw [HT.out, ER.out]; exact F.out.sideD1 HQ.out.2.1
        by_cases hB : T < P
        · obtain ⟨r2, HR2⟩ : ∃ r2 : Int, Hid (r2 = ((rn + yn1 : Nat) : Int)) := ⟨_, rfl⟩
          obtain ⟨q2, HQ2⟩ : ∃ q2 : Int, Hid (q2 = ((qn - 1 : Nat) : Int)) := ⟨_, rfl⟩
          have fr : IntKind.u64.wrap (r + (yn1 : Int)) = r2 := by rw [HR2.out, ER.out]; exact F.out.up HQ.out.2.1
          have HV : Hid (D1 < qn) := F.out.overD1 HQ.out (.inr (by have h1 := HP.out; have h2 := HT.out; omega))
          by_cases hbr : 4294967296 ≤ r2
          · have fq : IntKind.u64.wrap (q - 1) = (D1 : Int) := by rw [EQ.out]; exact F.out.brokeD1 HQ.out HV.out (by have := HR2.out; omega)
            clear HQ HV
            go_wp2
            go_loop [18, 16] (fun vq vr => ∃ q r : Int, vq = .int .u64 q ∧ vr = .int .u64 r ∧ Hid (∃ qn rn : Nat, q = qn ∧ r = rn ∧ qn * yn1 + rn = M ∧ rn < 4294967296 ∧ D0 ≤ qn ∧ qn ≤ 4294967297)) (fun vq _ => (intOf vq).toNat)
            case atStart => exact ⟨g0, r0, rfl, rfl, g0, r0, rfl, rfl, F.out.startD0⟩
            case round =>
              obtain ⟨q, r, rfl, rfl, HQ0⟩ := hrel
              obtain ⟨qn, rn, hq0, hr0, hq1⟩ := HQ0.out
              have EQ : Hid (q = (qn : Int)) := hq0
              have ER : Hid (r = (rn : Int)) := hr0
              have HQ : Hid (_ ∧ _) := hq1
              clear HQ0 hq0 hr0 hq1
              by_cases hA : 4294967296 ≤ q
              · obtain ⟨r2, HR2⟩ : ∃ r2 : Int, Hid (r2 = ((rn + yn1 : Nat) : Int)) := ⟨_, rfl⟩
                obtain ⟨q2, HQ2⟩ : ∃ q2 : Int, Hid (q2 = ((qn - 1 : Nat) : Int)) := ⟨_, rfl⟩
                have fr : IntKind.u64.wrap (r + (yn1 : Int)) = r2 := by rw [HR2.out, ER.out]; exact F.out.up HQ.out.2.1
                have HV : Hid (D0 < qn) := F.out.overD0 HQ.out (.inl (by have := EQ.out; omega))
                by_cases hbr : 4294967296 ≤ r2
                · have fq : IntKind.u64.wrap (q - 1) = (D0 : Int) := by rw [EQ.out]; exact F.out.brokeD0 HQ.out HV.out (by have := HR2.out; omega)
                  clear HQ HV
                  go_wp2
                  go_ret2
                  exact ⟨F.out.fin, ⟨0, rfl⟩⟩
                · have fq : IntKind.u64.wrap (q - 1) = q2 := by rw [HQ2.out, EQ.out]; exact wrap_less HV.out HQ.out.2.2.2
                  go_wp2
                  go_round
                  case rel => exact ⟨q2, r2, rfl, rfl, qn - 1, rn + yn1, HQ2.out, HR2.out, F.out.nextD0 HQ.out HV.out (by have := HR2.out; omega)⟩
                  case measure => have h9 := HV.out; have h8 := HQ2.out; have h7 := EQ.out; first | (simp [intOf]; done) | (simp [intOf]; omega) | (simp [intOf, fq]; omega)
              · obtain ⟨P, HP⟩ : ∃ P : Int, Hid (P = ((qn * yn0 : Nat) : Int)) := ⟨_, rfl⟩
                obtain ⟨T, HT⟩ : ∃ T : Int, Hid (T = ((4294967296 * rn + n0 : Nat) : Int)) := ⟨_, rfl⟩
                have f1 : IntKind.u64.wrap (q * (yn0 : Int)) = P := by rw [HP.out, EQ.out]; exact F.out.prod (by have := EQ.out; omega)
                have f2 : IntKind.u64.wrap (IntKind.u64.wrap (4294967296 * r) + (n0 : Int)) = T := by rw [HT.out, ER.out]; exact F.out.sideD0 HQ.out.2.1
                by_cases hB : T < P
                · obtain ⟨r2, HR2⟩ : ∃ r2 : Int, Hid (r2 = ((rn + yn1 : Nat) : Int)) := ⟨_, rfl⟩
                  obtain ⟨q2, HQ2⟩ : ∃ q2 : Int, Hid (q2 = ((qn - 1 : Nat) : Int)) := ⟨_, rfl⟩
                  have fr : IntKind.u64.wrap (r + (yn1 : Int)) = r2 := by rw [HR2.out, ER.out]; exact F.out.up HQ.out.2.1
                  have HV : Hid (D0 < qn) := F.out.overD0 HQ.out (.inr (by have h1 := HP.out; have h2 := HT.out; omega))
                  by_cases hbr : 4294967296 ≤ r2
                  · have fq : IntKind.u64.wrap (q - 1) = (D0 : Int) := by rw [EQ.out]; exact F.out.brokeD0 HQ.out HV.out (by have := HR2.out; omega)
                    clear HQ HV
                    go_wp2
                    go_ret2
                    exact ⟨F.out.fin, ⟨0, rfl⟩⟩
                  · have fq : IntKind.u64.wrap (q - 1) = q2 := by rw [HQ2.out, EQ.out]; exact wrap_less HV.out HQ.out.2.2.2
                    go_wp2
                    go_round
                    case rel => exact ⟨q2, r2, rfl, rfl, qn - 1, rn + yn1, HQ2.out, HR2.out, F.out.nextD0 HQ.out HV.out (by have := HR2.out; omega)⟩
                    case measure => have h9 := HV.out; have h8 := HQ2.out; have h7 := EQ.out; first | (simp [intOf]; done) | (simp [intOf]; omega) | (simp [intOf, fq]; omega)
                · have hE : D0 = qn := F.out.exactD0 HQ.out (by have h1 := HP.out; have h2 := HT.out; omega)
                  have hE2 : q = (D0 : Int) := by rw [EQ.out, hE]
                  subst hE2
                  clear HQ EQ hE
                  go_wp2
                  go_ret2
                  exact ⟨F.out.fin, ⟨0, rfl⟩⟩
          · have fq : IntKind.u64.wrap (q - 1) = q2 := by rw [HQ2.out, EQ.out]; exact wrap_less HV.out HQ.out.2.2.2
            go_wp2
            go_round
            case rel => exact ⟨q2, r2, rfl, rfl, qn - 1, rn + yn1, HQ2.out, HR2.out, F.out.nextD1 HQ.out HV.out (by have := HR2.out; omega)⟩
            case measure => have h9 := HV.out; have h8 := HQ2.out; have h7 := EQ.out; first | (simp [intOf]; done) | (simp [intOf]; omega) | (simp [intOf, fq]; omega)
        · have hE : D1 = qn := F.out.exactD1 HQ.out (by have h1 := HP.out; have h2 := HT.out; omega)
          have hE2 : q = (D1 : Int) := by rw [EQ.out, hE]
          subst hE2
          clear HQ EQ hE
          go_wp2
          go_loop [18, 16] (fun vq vr => ∃ q r : Int, vq = .int .u64 q ∧ vr = .int .u64 r ∧ Hid (∃ qn rn : Nat, q = qn ∧ r = rn ∧ qn * yn1 + rn = M ∧ rn < 4294967296 ∧ D0 ≤ qn ∧ qn ≤ 4294967297)) (fun vq _ => (intOf vq).toNat)
          case atStart => exact ⟨g0, r0, rfl, rfl, g0, r0, rfl, rfl, F.out.startD0⟩
          case round =>
            obtain ⟨q, r, rfl, rfl, HQ0⟩ := hrel
            obtain ⟨qn, rn, hq0, hr0, hq1⟩ := HQ0.out
            have EQ : Hid (q = (qn : Int)) := hq0
            have ER : Hid (r = (rn : Int)) := hr0
            have HQ : Hid (_ ∧ _) := hq1
            clear HQ0 hq0 hr0 hq1
            by_cases hA : 4294967296 ≤ q
            · obtain ⟨r2, HR2⟩ : ∃ r2 : Int, Hid (r2 = ((rn + yn1 : Nat) : Int)) := ⟨_, rfl⟩
              obtain ⟨q2, HQ2⟩ : ∃ q2 : Int, Hid (q2 = ((qn - 1 : Nat) : Int)) := ⟨_, rfl⟩
              have fr : IntKind.u64.wrap (r + (yn1 : Int)) = r2 := by rw [HR2.out, ER.out]; exact F.out.up HQ.out.2.1
              have HV : Hid (D0 < qn) := F.out.overD0 HQ.out (.inl (by have := EQ.out; omega))
              by_cases hbr : 4294967296 ≤ r2
              · have fq : IntKind.u64.wrap (q - 1) = (D0 : Int) := by rw [EQ.out]; exact F.out.brokeD0 HQ.out HV.out (by have := HR2.out; omega)
                clear HQ HV
                go_wp2
                go_ret2
                exact ⟨F.out.fin, ⟨0, rfl⟩⟩
              · have fq : IntKind.u64.wrap (q - 1) = q2 := by rw [HQ2.out, EQ.out]; exact wrap_less HV.out HQ.out.2.2.2
                go_wp2
                go_round
                case rel => exact ⟨q2, r2, rfl, rfl, qn - 1, rn + yn1, HQ2.out, HR2.out, F.out.nextD0 HQ.out HV.out (by have := HR2.out; omega)⟩
                case measure => have h9 := HV.out; have h8 := HQ2.out; have h7 := EQ.out; first | (simp [intOf]; done) | (simp [intOf]; omega) | (simp [intOf, fq]; omega)
            · obtain ⟨P, HP⟩ : ∃ P : Int, Hid (P = ((qn * yn0 : Nat) : Int)) := ⟨_, rfl⟩
              obtain ⟨T, HT⟩ : ∃ T : Int, Hid (T = ((4294967296 * rn + n0 : Nat) : Int)) := ⟨_, rfl⟩
              have f1 : IntKind.u64.wrap (q * (yn0 : Int)) = P := by rw [HP.out, EQ.out]; exact F.out.prod (by have := EQ.out; omega)
              have f2 : IntKind.u64.wrap (IntKind.u64.wrap (4294967296 * r) + (n0 : Int)) = T := by rw [HT.out, ER.out]; exact F.out.sideD0 HQ.out.2.1
              by_cases hB : T < P
              · obtain ⟨r2, HR2⟩ : ∃ r2 : Int, Hid (r2 = ((rn + yn1 : Nat) : Int)) := ⟨_, rfl⟩
                obtain ⟨q2, HQ2⟩ : ∃ q2 : Int, Hid (q2 = ((qn - 1 : Nat) : Int)) := ⟨_, rfl⟩
                have fr : IntKind.u64.wrap (r + (yn1 : Int)) = r2 := by rw [HR2.out, ER.out]; exact F.out.up HQ.out.2.1
                have HV : Hid (D0 < qn) := F.out.overD0 HQ.out (.inr (by have h1 := HP.out; have h2 := HT.out; omega))
                by_cases hbr : 4294967296 ≤ r2
                · have fq : IntKind.u64.wrap (q - 1) = (D0 : Int) := by rw [EQ.out]; exact F.out.brokeD0 HQ.out HV.out (by have := HR2.out; omega)
                  clear HQ HV
                  go_wp2
                  go_ret2
                  exact ⟨F.out.fin, ⟨0, rfl⟩⟩
                · have fq : IntKind.u64.wrap (q - 1) = q2 := by rw [HQ2.out, EQ.out]; exact wrap_less HV.out HQ.out.2.2.2
                  go_wp2
                  go_round
                  case rel => exact ⟨q2, r2, rfl, rfl, qn - 1, rn + yn1, HQ2.out, HR2.out, F.out.nextD0 HQ.out HV.out (by have := HR2.out; omega)⟩
                  case measure => have h9 := HV.out; have h8 := HQ2.out; have h7 := EQ.out; first | (simp [intOf]; done) | (simp [intOf]; omega) | (simp [intOf, fq]; omega)
              · have hE : D0 = qn := F.out.exactD0 HQ.out (by have h1 := HP.out; have h2 := HT.out; omega)
                have hE2 : q = (D0 : Int) := by rw [EQ.out, hE]
                subst hE2
                clear HQ EQ hE
                go_wp2
                go_ret2
                exact ⟨F.out.fin, ⟨0, rfl⟩⟩
end Go.Proofs.YtblfmfanfpohbaaGreat
