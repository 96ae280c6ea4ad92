/- What num.Add, Sub, Mul and MulDiv answer, for every input. -/
import Derived.Test.YtblfmfanfpohbaaGreatWide
import Derived.Test.YtblfmfanfpohbaaGreatDiv
import Derived.Deep.RegionWith
namespace Go.Proofs.YtblfmfanfpohbaaGreat
open Go.ChangeShapes Go.WideShapes Go.ChangeAt Go.RowKit
theorem mul_named (x y h l : Nat) (hx : x < 18446744073709551616) (hy : y < 18446744073709551616) (hh : h = x * y / 18446744073709551616) (hl : l = x * y % 18446744073709551616) (w : World) :
    Calls Tryz.prog 43 #[.int .u64 x, .int .u64 y] w fun e w' => e = .returned (.tuple #[.int .u64 (h : Int), .int .u64 (l : Int)]) ∧ w = w' := by
  subst hh hl
  exact mul64_any x y hx hy w
theorem div_named (hi lo y q r : Nat) (w : World) (h : hi < y) (h1 : y < 18446744073709551616) (h2 : lo < 18446744073709551616) (hq : q = (hi * 18446744073709551616 + lo) / y) (hr : r = (hi * 18446744073709551616 + lo) % y) :
    Calls Tryz.prog 44 #[.int .u64 (hi : Int), .int .u64 (lo : Int), .int .u64 (y : Int)] w fun e w' => ∃ n, e = .returned (.tuple #[.int .u64 (q : Int), .int .u64 (r : Int)]) ∧ w' = w.drewN n := by
  subst hq hr
  exact div64_any hi lo y w h h1 h2
theorem drewN_below {w w' : World} {n : Nat} (h : Below (w.drewN n).heap.size (w.drewN n) w') : Below w.heap.size w w' := (below_drewN (Below.refl _ _) n).trans h
def sgn (s : Bool) (n : Nat) : Int := if s then -(n : Int) else (n : Int)
theorem sgn_mul (a b : Int) : a * b = sgn (decide (a < 0) != decide (b < 0)) (a.natAbs * b.natAbs) := by
  unfold sgn
  rw [Int.natCast_mul]
  by_cases h1 : a < 0 <;> by_cases h2 : b < 0
  · rw [show ((a.natAbs : Nat) : Int) = -a from by omega, show ((b.natAbs : Nat) : Int) = -b from by omega]; simp [h1, h2, Int.neg_mul, Int.mul_neg]
  · rw [show ((a.natAbs : Nat) : Int) = -a from by omega, show ((b.natAbs : Nat) : Int) = b from by omega]; simp [h1, h2, Int.neg_mul]
  · rw [show ((a.natAbs : Nat) : Int) = a from by omega, show ((b.natAbs : Nat) : Int) = -b from by omega]; simp [h1, h2, Int.mul_neg]
  · rw [show ((a.natAbs : Nat) : Int) = a from by omega, show ((b.natAbs : Nat) : Int) = b from by omega]; simp [h1, h2]
theorem prod_le (x y : Nat) (hx : x ≤ 9223372036854775808) (hy : y ≤ 9223372036854775808) : x * y ≤ 85070591730234615865843651857942052864 := Nat.mul_le_mul hx hy
/-- the numbers of a product -/
structure MulF (a b : Int) (ua ub hi lo : Nat) : Prop where
  ha : ua = a.natAbs
  hb : ub = b.natAbs
  la : ua < 18446744073709551616
  lb : ub < 18446744073709551616
  hh : hi = ua * ub / 18446744073709551616
  hl : lo = ua * ub % 18446744073709551616
  h1 : hi < 9223372036854775808
  l1 : lo < 18446744073709551616
  hP : hi * 18446744073709551616 + lo = ua * ub
theorem mul_facts (a b : Int) (h0 : -9223372036854775808 ≤ a) (h1 : a ≤ 9223372036854775807) (h2 : -9223372036854775808 ≤ b) (h3 : b ≤ 9223372036854775807) : ∃ ua ub hi lo, MulF a b ua ub hi lo := by
  have hP := prod_le a.natAbs b.natAbs (by omega) (by omega)
  refine ⟨_, _, _, _, rfl, rfl, by omega, by omega, rfl, rfl, ?_, Nat.mod_lt _ (by omega), ?_⟩ <;>
  (generalize a.natAbs * b.natAbs = P at *; omega)
theorem MulF.val {a b : Int} {ua ub hi lo : Nat} (F : MulF a b ua ub hi lo) : a * b = (if (decide (a < 0) != decide (b < 0)) then -((hi : Int) * 18446744073709551616 + lo) else (hi : Int) * 18446744073709551616 + lo) := by
  rw [sgn_mul, ← F.ha, ← F.hb, ← F.hP]
  unfold sgn
  simp only [Int.natCast_add, Int.natCast_mul]
  rfl
theorem sgn_range {V : Int} {s : Bool} {hi lo : Nat} (h1 : hi < 9223372036854775808) (h2 : lo < 18446744073709551616) (h : V = (if s then -((hi : Int) * 18446744073709551616 + lo) else (hi : Int) * 18446744073709551616 + lo)) :
    -170141183460469231731687303715884105728 ≤ V ∧ V ≤ 170141183460469231731687303715884105727 := by
  subst h
  split <;> omega
theorem wf_i64 (n : Int) (h : (Lit.int .i64 n).wf = true) : -9223372036854775808 ≤ n ∧ n ≤ 9223372036854775807 := by
  simpa [Lit.wf, IntKind.min, IntKind.max, IntKind.signed, IntKind.bits] using h
/-- a times b divided by d, cut toward 0 -/
def mdq (a b d : Int) : Int := sgn ((decide (a < 0) != decide (b < 0)) != decide (d < 0)) (a.natAbs * b.natAbs / d.natAbs)
def mdV (a b d : Int) : Int := if d = 0 then 0 else fitV (mdq a b d)
def mdB (a b d : Int) : Bool := if d = 0 then false else fitB (mdq a b d)
theorem md_none (a b d : Int) (ua ub hi lo ud : Nat) (F : MulF a b ua ub hi lo) (hd : ud = d.natAbs) (h : ud ≤ hi) : mdV a b d = 0 ∧ mdB a b d = false := by
  unfold mdV mdB
  by_cases h0 : d = 0
  · rw [if_pos h0, if_pos h0]; exact ⟨rfl, rfl⟩
  · rw [if_neg h0, if_neg h0]
    have hn : ¬ inI (mdq a b d) := by
      have hq : 18446744073709551616 ≤ a.natAbs * b.natAbs / d.natAbs := by
        rw [Nat.le_div_iff_mul_le (by omega), ← F.ha, ← F.hb, ← F.hP, ← hd]
        have : ud * 18446744073709551616 ≤ hi * 18446744073709551616 := Nat.mul_le_mul_right _ h
        omega
      unfold inI mdq sgn
      generalize a.natAbs * b.natAbs / d.natAbs = q at *
      split <;> omega
    unfold fitV fitB
    rw [if_neg hn, decide_eq_false hn]
    exact ⟨rfl, rfl⟩
theorem ret_ib {a a' : Int} {b b' : Bool} {k : IntKind} (h1 : a = a') (h2 : b = b') : Ending.returned (.tuple #[.int k a, .bool b]) = .returned (.tuple #[.int k a', .bool b']) := by rw [h1, h2]
set_option maxRecDepth 20000 in
set_option maxHeartbeats 1000000 in
theorem muldiv_walkA (a b d : Int) (ua ub hi lo ud : Nat) (w : World) (h0 : Hid (-9223372036854775808 ≤ a ∧ a ≤ 9223372036854775807)) (h2 : Hid (-9223372036854775808 ≤ b ∧ b ≤ 9223372036854775807)) (h4 : Hid (-9223372036854775808 ≤ d ∧ d ≤ 9223372036854775807)) (F : Hid (MulF a b ua ub hi lo)) (hd : Hid (ud = d.natAbs)) (h : ud ≤ hi) :
    Calls Tryz.prog 46 #[.int .i64 a, .int .i64 b, .int .i64 d] w fun e w' => e = .returned (.tuple #[.int .i64 (mdV a b d), .bool (mdB a b d)]) ∧ Below w.heap.size w w' := by
  have HE : Hid (_ ∧ _) := md_none a b d ua ub hi lo ud F.out hd.out h
  go_enter Tryz.func46, Tryz.ntmps46
  go_wp2_with (first
    | (go_at_call_of 85 (a); refine (nsize_any a ua _ h0.out.1 h0.out.2 F.out.ha).mono ?_; rintro e w1 ⟨rfl, rfl⟩)
    | (go_at_call_of 85 (b); refine (nsize_any b ub _ h2.out.1 h2.out.2 F.out.hb).mono ?_; rintro e w1 ⟨rfl, rfl⟩)
    | (go_at_call_of 85 (d); refine (nsize_any d ud _ h4.out.1 h4.out.2 hd.out).mono ?_; rintro e w1 ⟨rfl, rfl⟩)
    | (go_at_call 43; refine (mul_named ua ub hi lo F.out.la F.out.lb F.out.hh F.out.hl _).mono ?_; rintro e w1 ⟨rfl, rfl⟩))
  go_ret2
  exact ⟨ret_ib HE.out.1.symm HE.out.2.symm, Below.refl _ _⟩
set_option maxRecDepth 20000 in
set_option maxHeartbeats 2000000 in
theorem muldiv_walkB (a b d V : Int) (sa sb sd : Bool) (ua ub hi lo ud q r : Nat) (w : World) (h0 : Hid (-9223372036854775808 ≤ a ∧ a ≤ 9223372036854775807)) (h2 : Hid (-9223372036854775808 ≤ b ∧ b ≤ 9223372036854775807)) (h4 : Hid (-9223372036854775808 ≤ d ∧ d ≤ 9223372036854775807)) (F : Hid (MulF a b ua ub hi lo)) (hd : Hid (ud = d.natAbs ∧ ud < 18446744073709551616)) (h : hi < ud)
    (hq : Hid (q = (hi * 18446744073709551616 + lo) / ud ∧ q < 18446744073709551616)) (hr : Hid (r = (hi * 18446744073709551616 + lo) % ud)) (ha : decide (a < 0) = sa) (hb : decide (b < 0) = sb) (hdd : decide (d < 0) = sd)
    (hV : Hid (V = (if ((sa != sb) != sd) then -(((0 : Nat) : Int) * 18446744073709551616 + q) else ((0 : Nat) : Int) * 18446744073709551616 + q))) :
    Calls Tryz.prog 46 #[.int .i64 a, .int .i64 b, .int .i64 d] w fun e w' => e = .returned (.tuple #[.int .i64 (fitV V), .bool (fitB V)]) ∧ Below w.heap.size w w' := by
  have HR : Hid (_ ∧ _) := sgn_range (hi := 0) (by omega) hq.out.2 hV.out
  cases sa <;> cases sb <;> cases sd
  all_goals
    go_enter Tryz.func46, Tryz.ntmps46
    go_wp2_with (first
      | (go_at_call_of 85 (a); refine (nsize_any a ua _ h0.out.1 h0.out.2 F.out.ha).mono ?_; rintro e w1 ⟨rfl, rfl⟩)
      | (go_at_call_of 85 (b); refine (nsize_any b ub _ h2.out.1 h2.out.2 F.out.hb).mono ?_; rintro e w1 ⟨rfl, rfl⟩)
      | (go_at_call_of 85 (d); refine (nsize_any d ud _ h4.out.1 h4.out.2 hd.out.1).mono ?_; rintro e w1 ⟨rfl, rfl⟩)
      | (go_at_call 43; refine (mul_named ua ub hi lo F.out.la F.out.lb F.out.hh F.out.hl _).mono ?_; rintro e w1 ⟨rfl, rfl⟩)
      | (go_at_call 44; refine (div_named hi lo ud q r _ h hd.out.2 F.out.l1 hq.out.1 hr.out).mono ?_; rintro e w1 ⟨n, rfl, rfl⟩)
      | (go_at_call_of 86 (Value.bool false); refine (signed_any 0 q false V _ (by omega) hq.out.2 hV.out).mono ?_; rintro e w1 ⟨rfl, hb1⟩)
      | (go_at_call_of 86 (Value.bool true); refine (signed_any 0 q true V _ (by omega) hq.out.2 hV.out).mono ?_; rintro e w1 ⟨rfl, hb1⟩)
      | (go_at_call 87; refine (narrow_any V _ HR.out.1 HR.out.2).mono ?_; unfold fitT; rintro e w2 ⟨rfl, hb2⟩))
    go_ret2
    exact ⟨rfl, drewN_below (hb1.trans (hb2.mono hb1.size))⟩
theorem muldiv_any (a b d : Int) (w : World) (h0 : -9223372036854775808 ≤ a) (h1 : a ≤ 9223372036854775807) (h2 : -9223372036854775808 ≤ b) (h3 : b ≤ 9223372036854775807) (h4 : -9223372036854775808 ≤ d) (h5 : d ≤ 9223372036854775807) :
    Calls Tryz.prog 46 #[.int .i64 a, .int .i64 b, .int .i64 d] w fun e w' => e = .returned (.tuple #[.int .i64 (mdV a b d), .bool (mdB a b d)]) ∧ Below w.heap.size w w' := by
  obtain ⟨ua, ub, hi, lo, F⟩ := mul_facts a b h0 h1 h2 h3
  by_cases h : d.natAbs ≤ hi
  · exact muldiv_walkA a b d ua ub hi lo _ w ⟨h0, h1⟩ ⟨h2, h3⟩ ⟨h4, h5⟩ F rfl h
  · have hd : ¬ d = 0 := by omega
    have e : mdV a b d = fitV (mdq a b d) ∧ mdB a b d = fitB (mdq a b d) := by unfold mdV mdB; rw [if_neg hd, if_neg hd]; exact ⟨rfl, rfl⟩
    rw [e.1, e.2]
    refine muldiv_walkB a b d _ _ _ _ ua ub hi lo d.natAbs _ _ w ⟨h0, h1⟩ ⟨h2, h3⟩ ⟨h4, h5⟩ F ⟨rfl, by omega⟩ (by omega) ⟨rfl, ?_⟩ rfl rfl rfl rfl ?_
    · rw [Nat.div_lt_iff_lt_mul (by omega)]
      have : (hi + 1) * 18446744073709551616 ≤ d.natAbs * 18446744073709551616 := Nat.mul_le_mul_right _ (by omega)
      have := F.l1
      omega
    · show _ = _
      unfold mdq sgn
      rw [F.hP, F.ha, F.hb]
      simp
theorem md_self (a b : Int) (h : ¬ b = 0) : mdq a b b = a := by
  unfold mdq
  rw [Nat.mul_div_cancel _ (by omega)]
  unfold sgn
  by_cases h1 : a < 0 <;> by_cases h2 : b < 0 <;> simp [h1, h2] <;> omega
theorem md_one (a b : Int) : mdq a b 1 = a * b := by
  rw [sgn_mul]
  unfold mdq
  simp
theorem fit_in (V : Int) (h : inI V) : fitV V = V ∧ fitB V = true := by
  unfold fitV fitB
  rw [if_pos h, decide_eq_true h]
  exact ⟨rfl, rfl⟩
end Go.Proofs.YtblfmfanfpohbaaGreat
