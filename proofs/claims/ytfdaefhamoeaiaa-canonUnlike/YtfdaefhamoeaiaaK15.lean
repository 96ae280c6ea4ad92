/- Own texts, joined: Num, Ov1, Ov2. -/
import Derived.Test.YtfdaefhamoeaiaaK12
import Derived.Test.YtfdaefhamoeaiaaK14
import Derived.Deep.RegionWith
namespace Go.Proofs.Ytfdaefhamoeaiaa
open Go.ChangeShapes Go.WideShapes Go.ChangeAt Go.RowKit
theorem mul_named (x y h l : Nat) (hx : x < 18446744073709551616) (hy : y < 18446744073709551616) (hh : h = x * y / 18446744073709551616) (hl : l = x * y % 18446744073709551616) (w : World) :
    Calls Try.prog 52 #[.int .u64 x, .int .u64 y] w fun e w' => e = .returned (.tuple #[.int .u64 (h : Int), .int .u64 (l : Int)]) ∧ w = w' := by
  subst hh hl
  exact mul64_any x y hx hy w
theorem div_named (hi lo y q r : Nat) (w : World) (h : hi < y) (h1 : y < 18446744073709551616) (h2 : lo < 18446744073709551616) (hq : q = (hi * 18446744073709551616 + lo) / y) (hr : r = (hi * 18446744073709551616 + lo) % y) :
    Calls Try.prog 54 #[.int .u64 (hi : Int), .int .u64 (lo : Int), .int .u64 (y : Int)] w fun e w' => ∃ n, e = .returned (.tuple #[.int .u64 (q : Int), .int .u64 (r : Int)]) ∧ w' = w.drewN n := by
  subst hq hr
  exact div64_any hi lo y w h h1 h2
theorem drewN_below {w w' : World} {n : Nat} (h : Below (w.drewN n).heap.size (w.drewN n) w') : Below w.heap.size w w' := (below_drewN (Below.refl _ _) n).trans h
def sgn (s : Bool) (n : Nat) : Int := if s then -(n : Int) else (n : Int)
theorem sgn_mul (a b : Int) : a * b = sgn (decide (a < 0) != decide (b < 0)) (a.natAbs * b.natAbs) := by
  unfold sgn
  rw [Int.natCast_mul]
  by_cases h1 : a < 0 <;> by_cases h2 : b < 0
  · rw [show ((a.natAbs : Nat) : Int) = -a from by omega, show ((b.natAbs : Nat) : Int) = -b from by omega]; simp [h1, h2, Int.neg_mul, Int.mul_neg]
  · rw [show ((a.natAbs : Nat) : Int) = -a from by omega, show ((b.natAbs : Nat) : Int) = b from by omega]; simp [h1, h2, Int.neg_mul]
  · rw [show ((a.natAbs : Nat) : Int) = a from by omega, show ((b.natAbs : Nat) : Int) = -b from by omega]; simp [h1, h2, Int.mul_neg]
  · rw [show ((a.natAbs : Nat) : Int) = a from by omega, show ((b.natAbs : Nat) : Int) = b from by omega]; simp [h1, h2]
theorem prod_le (x y : Nat) (hx : x ≤ 9223372036854775808) (hy : y ≤ 9223372036854775808) : x * y ≤ 85070591730234615865843651857942052864 := Nat.mul_le_mul hx hy
/-- the numbers of a product -/
structure MulF (a b : Int) (ua ub hi lo : Nat) : Prop where
  ha : ua = a.natAbs
  hb : ub = b.natAbs
  la : ua < 18446744073709551616
  lb : ub < 18446744073709551616
  hh : hi = ua * ub / 18446744073709551616
  hl : lo = ua * ub % 18446744073709551616
  h1 : hi < 9223372036854775808
  l1 : lo < 18446744073709551616
  hP : hi * 18446744073709551616 + lo = ua * ub
theorem mul_facts (a b : Int) (h0 : -9223372036854775808 ≤ a) (h1 : a ≤ 9223372036854775807) (h2 : -9223372036854775808 ≤ b) (h3 : b ≤ 9223372036854775807) : ∃ ua ub hi lo, MulF a b ua ub hi lo := by
  have hP := prod_le a.natAbs b.natAbs (by omega) (by omega)
  refine ⟨_, _, _, _, rfl, rfl, by omega, by omega, rfl, rfl, ?_, Nat.mod_lt _ (by omega), ?_⟩ <;>
  (generalize a.natAbs * b.natAbs = P at *; omega)
theorem MulF.val {a b : Int} {ua ub hi lo : Nat} (F : MulF a b ua ub hi lo) : a * b = (if (decide (a < 0) != decide (b < 0)) then -((hi : Int) * 18446744073709551616 + lo) else (hi : Int) * 18446744073709551616 + lo) := by
  rw [sgn_mul, ← F.ha, ← F.hb, ← F.hP]
  unfold sgn
  simp only [Int.natCast_add, Int.natCast_mul]
  rfl
theorem sgn_range {V : Int} {s : Bool} {hi lo : Nat} (h1 : hi < 9223372036854775808) (h2 : lo < 18446744073709551616) (h : V = (if s then -((hi : Int) * 18446744073709551616 + lo) else (hi : Int) * 18446744073709551616 + lo)) :
    -170141183460469231731687303715884105728 ≤ V ∧ V ≤ 170141183460469231731687303715884105727 := by
  subst h
  split <;> omega
theorem wf_i64 (n : Int) (h : (Lit.int .i64 n).wf = true) : -9223372036854775808 ≤ n ∧ n ≤ 9223372036854775807 := by
  simpa [Lit.wf, IntKind.min, IntKind.max, IntKind.signed, IntKind.bits] using h
/-- a times b divided by d, cut toward 0 -/
def mdq (a b d : Int) : Int := sgn ((decide (a < 0) != decide (b < 0)) != decide (d < 0)) (a.natAbs * b.natAbs / d.natAbs)
def mdV (a b d : Int) : Int := if d = 0 then 0 else fitV (mdq a b d)
def mdB (a b d : Int) : Bool := if d = 0 then false else fitB (mdq a b d)
theorem md_none (a b d : Int) (ua ub hi lo ud : Nat) (F : MulF a b ua ub hi lo) (hd : ud = d.natAbs) (h : ud ≤ hi) : mdV a b d = 0 ∧ mdB a b d = false := by
  unfold mdV mdB
  by_cases h0 : d = 0
  · rw [if_pos h0, if_pos h0]; exact ⟨rfl, rfl⟩
  · rw [if_neg h0, if_neg h0]
    have hn : ¬ inI (mdq a b d) := by
      have hq : 18446744073709551616 ≤ a.natAbs * b.natAbs / d.natAbs := by
        rw [Nat.le_div_iff_mul_le (by omega), ← F.ha, ← F.hb, ← F.hP, ← hd]
        have : ud * 18446744073709551616 ≤ hi * 18446744073709551616 := Nat.mul_le_mul_right _ h
        omega
      unfold inI mdq sgn
      generalize a.natAbs * b.natAbs / d.natAbs = q at *
      split <;> omega
    unfold fitV fitB
    rw [if_neg hn, decide_eq_false hn]
    exact ⟨rfl, rfl⟩
theorem ret_ib {a a' : Int} {b b' : Bool} {k : IntKind} (h1 : a = a') (h2 : b = b') : Ending.returned (.tuple #[.int k a, .bool b]) = .returned (.tuple #[.int k a', .bool b']) := by rw [h1, h2]
set_option maxRecDepth 20000 in
set_option maxHeartbeats 1000000 in
theorem muldiv_walkA (a b d : Int) (ua ub hi lo ud : Nat) (w : World) (h0 : Hid (-9223372036854775808 ≤ a ∧ a ≤ 9223372036854775807)) (h2 : Hid (-9223372036854775808 ≤ b ∧ b ≤ 9223372036854775807)) (h4 : Hid (-9223372036854775808 ≤ d ∧ d ≤ 9223372036854775807)) (F : Hid (MulF a b ua ub hi lo)) (hd : Hid (ud = d.natAbs)) (h : ud ≤ hi) :
    Calls Try.prog 36 #[.int .i64 a, .int .i64 b, .int .i64 d] w fun e w' => e = .returned (.tuple #[.int .i64 (mdV a b d), .bool (mdB a b d)]) ∧ Below w.heap.size w w' := by
  have HE : Hid (_ ∧ _) := md_none a b d ua ub hi lo ud F.out hd.out h
  go_enter Try.func36, Try.ntmps36
  go_wp2_with (first
    | (go_at_call_of 53 (a); refine (nsize_any a ua _ h0.out.1 h0.out.2 F.out.ha).mono ?_; rintro e w1 ⟨rfl, rfl⟩)
    | (go_at_call_of 53 (b); refine (nsize_any b ub _ h2.out.1 h2.out.2 F.out.hb).mono ?_; rintro e w1 ⟨rfl, rfl⟩)
    | (go_at_call_of 53 (d); refine (nsize_any d ud _ h4.out.1 h4.out.2 hd.out).mono ?_; rintro e w1 ⟨rfl, rfl⟩)
    | (go_at_call 52; refine (mul_named ua ub hi lo F.out.la F.out.lb F.out.hh F.out.hl _).mono ?_; rintro e w1 ⟨rfl, rfl⟩))
  go_ret2
  exact ⟨ret_ib HE.out.1.symm HE.out.2.symm, Below.refl _ _⟩
set_option maxRecDepth 20000 in
set_option maxHeartbeats 2000000 in
theorem muldiv_walkB (a b d V : Int) (sa sb sd : Bool) (ua ub hi lo ud q r : Nat) (w : World) (h0 : Hid (-9223372036854775808 ≤ a ∧ a ≤ 9223372036854775807)) (h2 : Hid (-9223372036854775808 ≤ b ∧ b ≤ 9223372036854775807)) (h4 : Hid (-9223372036854775808 ≤ d ∧ d ≤ 9223372036854775807)) (F : Hid (MulF a b ua ub hi lo)) (hd : Hid (ud = d.natAbs ∧ ud < 18446744073709551616)) (h : hi < ud)
    (hq : Hid (q = (hi * 18446744073709551616 + lo) / ud ∧ q < 18446744073709551616)) (hr : Hid (r = (hi * 18446744073709551616 + lo) % ud)) (ha : decide (a < 0) = sa) (hb : decide (b < 0) = sb) (hdd : decide (d < 0) = sd)
    (hV : Hid (V = (if ((sa != sb) != sd) then -(((0 : Nat) : Int) * 18446744073709551616 + q) else ((0 : Nat) : Int) * 18446744073709551616 + q))) :
    Calls Try.prog 36 #[.int .i64 a, .int .i64 b, .int .i64 d] w fun e w' => e = .returned (.tuple #[.int .i64 (fitV V), .bool (fitB V)]) ∧ Below w.heap.size w w' := by
  have HR : Hid (_ ∧ _) := sgn_range (hi := 0) (by omega) hq.out.2 hV.out
  cases sa <;> cases sb <;> cases sd
  all_goals
    go_enter Try.func36, Try.ntmps36
    go_wp2_with (first
      | (go_at_call_of 53 (a); refine (nsize_any a ua _ h0.out.1 h0.out.2 F.out.ha).mono ?_; rintro e w1 ⟨rfl, rfl⟩)
      | (go_at_call_of 53 (b); refine (nsize_any b ub _ h2.out.1 h2.out.2 F.out.hb).mono ?_; rintro e w1 ⟨rfl, rfl⟩)
      | (go_at_call_of 53 (d); refine (nsize_any d ud _ h4.out.1 h4.out.2 hd.out.1).mono ?_; rintro e w1 ⟨rfl, rfl⟩)
      | (go_at_call 52; refine (mul_named ua ub hi lo F.out.la F.out.lb F.out.hh F.out.hl _).mono ?_; rintro e w1 ⟨rfl, rfl⟩)
      | (go_at_call 54; refine (div_named hi lo ud q r _ h hd.out.2 F.out.l1 hq.out.1 hr.out).mono ?_; rintro e w1 ⟨n, rfl, rfl⟩)
      | (go_at_call_of 55 (Value.bool false); refine (signed_any 0 q false V _ (by omega) hq.out.2 hV.out).mono ?_; rintro e w1 ⟨rfl, hb1⟩)
      | (go_at_call_of 55 (Value.bool true); refine (signed_any 0 q true V _ (by omega) hq.out.2 hV.out).mono ?_; rintro e w1 ⟨rfl, hb1⟩)
      | (go_at_call 56; refine (narrow_any V _ HR.out.1 HR.out.2).mono ?_; unfold fitT; rintro e w2 ⟨rfl, hb2⟩))
    go_ret2
    exact ⟨rfl, drewN_below (hb1.trans (hb2.mono hb1.size))⟩
theorem muldiv_any (a b d : Int) (w : World) (h0 : -9223372036854775808 ≤ a) (h1 : a ≤ 9223372036854775807) (h2 : -9223372036854775808 ≤ b) (h3 : b ≤ 9223372036854775807) (h4 : -9223372036854775808 ≤ d) (h5 : d ≤ 9223372036854775807) :
    Calls Try.prog 36 #[.int .i64 a, .int .i64 b, .int .i64 d] w fun e w' => e = .returned (.tuple #[.int .i64 (mdV a b d), .bool (mdB a b d)]) ∧ Below w.heap.size w w' := by
  obtain ⟨ua, ub, hi, lo, F⟩ := mul_facts a b h0 h1 h2 h3
  by_cases h : d.natAbs ≤ hi
  · exact muldiv_walkA a b d ua ub hi lo _ w ⟨h0, h1⟩ ⟨h2, h3⟩ ⟨h4, h5⟩ F rfl h
  · have hd : ¬ d = 0 := by omega
    have e : mdV a b d = fitV (mdq a b d) ∧ mdB a b d = fitB (mdq a b d) := by unfold mdV mdB; rw [if_neg hd, if_neg hd]; exact ⟨rfl, rfl⟩
    rw [e.1, e.2]
    refine muldiv_walkB a b d _ _ _ _ ua ub hi lo d.natAbs _ _ w ⟨h0, h1⟩ ⟨h2, h3⟩ ⟨h4, h5⟩ F ⟨rfl, by omega⟩ (by omega) ⟨rfl, ?_⟩ rfl rfl rfl rfl ?_
    · rw [Nat.div_lt_iff_lt_mul (by omega)]
      have : (hi + 1) * 18446744073709551616 ≤ d.natAbs * 18446744073709551616 := Nat.mul_le_mul_right _ (by omega)
      have := F.l1
      omega
    · show _ = _
      unfold mdq sgn
      rw [F.hP, F.ha, F.hb]
      simp
theorem md_self (a b : Int) (h : ¬ b = 0) : mdq a b b = a := by
  unfold mdq
  rw [Nat.mul_div_cancel _ (by omega)]
  unfold sgn
  by_cases h1 : a < 0 <;> by_cases h2 : b < 0 <;> simp [h1, h2] <;> omega
theorem md_one (a b : Int) : mdq a b 1 = a * b := by
  rw [sgn_mul]
  unfold mdq
  simp
theorem fit_in (V : Int) (h : inI V) : fitV V = V ∧ fitB V = true := by
  unfold fitV fitB
  rw [if_pos h, decide_eq_true h]
  exact ⟨rfl, rfl⟩
end Go.Proofs.Ytfdaefhamoeaiaa
namespace Go.Proofs.Ytfdaefhamoeaiaa
open Go.ChangeShapes Go.WideShapes Go.ChangeAt Go.RowKit
set_option linter.unusedVariables false
set_option maxRecDepth 20000 in
theorem owithin_any (a x b : Int) (w : World) : Calls Try.prog 23 #[.int .i64 a, .int .i64 x, .int .i64 b] w fun e w' => e = .returned (.bool (wit a x b)) ∧ w = w' := by
  by_cases h1 : a ≤ x
  · by_cases h2 : x ≤ b
    · have e1 : wit a x b = true := by unfold wit; simp [h1, h2]
      rw [e1]
      go_enter Try.func23, Try.ntmps23
      go_wp2
      go_ret
      exact ⟨rfl, rfl⟩
    · have e1 : wit a x b = false := by unfold wit; simp [h1, h2]
      rw [e1]
      go_enter Try.func23, Try.ntmps23
      go_wp2
      go_ret
      exact ⟨rfl, rfl⟩
  · have e1 : wit a x b = false := by unfold wit; simp [h1]
    rw [e1]
    go_enter Try.func23, Try.ntmps23
    go_wp2
    go_ret
    exact ⟨rfl, rfl⟩
theorem wit_true {a x b : Int} : wit a x b = true ↔ a ≤ x ∧ x ≤ b := by unfold wit; simp
/-- a line behind one of item 'last' -/
def lnB (last : Int) (l : Ln) : Bool := wit (last + 1) l.item 65535 && (wit 0 l.price 100000000 && (wit 1 l.qty 100000 && wit 0 l.shipped l.qty))
def linesFrom : Int → List Ln → Bool
  | _, [] => true
  | last, l :: r => lnB last l && linesFrom l.item r
def linesB (L : List Ln) : Bool := decide (L.length ≤ 16) && linesFrom (-1) L
def net : List Ln → Int
  | [] => 0
  | l :: r => l.qty * l.price + net r
def dueS (s : St) : Int := net s.lines + net s.lines * s.tax / 10000
theorem net_append : ∀ (L M : List Ln), net (L ++ M) = net L + net M
  | [], M => by simp [net]
  | p :: r, M => by simp only [List.cons_append, net, net_append r M]; omega
theorem lnB_facts {last : Int} {l : Ln} (h : lnB last l = true) : last < l.item ∧ l.item ≤ 65535 ∧ 0 ≤ l.price ∧ l.price ≤ 100000000 ∧ 1 ≤ l.qty ∧ l.qty ≤ 100000 ∧ 0 ≤ l.shipped ∧ l.shipped ≤ l.qty := by
  simp only [lnB, Bool.and_eq_true, wit_true] at h
  omega
theorem linesFrom_get : ∀ {L : List Ln} {last : Int} {k : Nat} {p : Ln}, linesFrom last L = true → L[k]? = some p → ∃ m, lnB m p = true
  | l :: r, last, 0, p, h, hp => by
    simp only [linesFrom, Bool.and_eq_true] at h
    simp at hp; subst hp
    exact ⟨last, h.1⟩
  | l :: r, last, k + 1, p, h, hp => by
    simp only [linesFrom, Bool.and_eq_true] at h
    exact linesFrom_get h.2 (by simpa using hp)
  | [], last, k, p, h, hp => by simp at hp
theorem linesB_facts {L : List Ln} (h : linesB L = true) : L.length ≤ 16 ∧ ∀ (k : Nat) (p : Ln), L[k]? = some p → 0 ≤ p.item ∧ p.item ≤ 65535 ∧ 0 ≤ p.price ∧ p.price ≤ 100000000 ∧ 1 ≤ p.qty ∧ p.qty ≤ 100000 ∧ 0 ≤ p.shipped ∧ p.shipped ≤ p.qty := by
  simp only [linesB, Bool.and_eq_true, decide_eq_true_eq] at h
  refine ⟨h.1, ?_⟩
  have key : ∀ (L : List Ln) (last : Int), -1 ≤ last → linesFrom last L = true → ∀ (k : Nat) (p : Ln), L[k]? = some p → 0 ≤ p.item ∧ p.item ≤ 65535 ∧ 0 ≤ p.price ∧ p.price ≤ 100000000 ∧ 1 ≤ p.qty ∧ p.qty ≤ 100000 ∧ 0 ≤ p.shipped ∧ p.shipped ≤ p.qty := by
    intro L
    induction L with
    | nil => intro last _ _ k p hp; simp at hp
    | cons l r ih =>
      intro last h0 hl k p hp
      simp only [linesFrom, Bool.and_eq_true] at hl
      have f := lnB_facts hl.1
      cases k with
      | zero => simp at hp; subst hp; omega
      | succ k => exact ih l.item (by omega) hl.2 k p (by simpa using hp)
  exact key L (-1) (by omega) h.2
theorem worth_bound {q p : Int} (h1 : 0 ≤ q) (h2 : q ≤ 100000) (h3 : 0 ≤ p) (h4 : p ≤ 100000000) : 0 ≤ q * p ∧ q * p ≤ 10000000000000 :=
  ⟨Int.mul_nonneg h1 h3, Int.le_trans (Int.mul_le_mul h2 h4 h3 (by omega)) (by decide)⟩
theorem net_take {L : List Ln} (h : linesB L = true) : ∀ k, k ≤ L.length → 0 ≤ net (L.take k) ∧ net (L.take k) ≤ 10000000000000 * (k : Int) := by
  obtain ⟨h16, hall⟩ := linesB_facts h
  intro k
  induction k with
  | zero => intro _; simp [net]
  | succ k ih =>
    intro hk
    obtain ⟨p, hp⟩ := ln_get (L := L) (k := k) (by omega)
    have f := hall k p hp
    obtain ⟨i1, i2⟩ := ih (by omega)
    obtain ⟨b1, b2⟩ := worth_bound (q := p.qty) (p := p.price) (by omega) (by omega) (by omega) (by omega)
    rw [ln_take L k p hp, net_append]
    simp only [net]
    omega
theorem net_bound {L : List Ln} (h : linesB L = true) : 0 ≤ net L ∧ net L ≤ 160000000000000 := by
  have h1 := net_take h L.length (Nat.le_refl _)
  rw [List.take_length] at h1
  have h2 := (linesB_facts h).1
  omega
theorem tax_bound {n t : Int} (h1 : 0 ≤ n) (h2 : n ≤ 160000000000000) (h3 : 0 ≤ t) (h4 : t ≤ 5000) : 0 ≤ n * t ∧ n * t ≤ 800000000000000000 :=
  ⟨Int.mul_nonneg h1 h3, Int.le_trans (Int.mul_le_mul h2 h4 h3 (by omega)) (by decide)⟩
theorem md_tax {n t : Int} (h1 : 0 ≤ n) (h2 : n ≤ 160000000000000) (h3 : 0 ≤ t) (h4 : t ≤ 5000) : mdV n t 10000 = n * t / 10000 ∧ mdB n t 10000 = true := by
  obtain ⟨b1, b2⟩ := tax_bound h1 h2 h3 h4
  have e1 : mdq n t 10000 = n * t / 10000 := by
    unfold mdq
    rw [decide_eq_false (by omega : ¬ n < 0), decide_eq_false (by omega : ¬ t < 0), decide_eq_false (by decide : ¬ (10000 : Int) < 0)]
    show ((n.natAbs * t.natAbs / 10000 : Nat) : Int) = n * t / 10000
    rw [← Int.natAbs_mul]
    have : ((n * t).natAbs : Int) = n * t := by omega
    rw [Int.natCast_ediv, this]; rfl
  have e2 : inI (n * t / 10000) := by
    show -9223372036854775808 ≤ _ ∧ _ ≤ 9223372036854775807
    omega
  unfold mdV mdB
  rw [if_neg (by decide), if_neg (by decide), e1]
  exact fit_in _ e2
theorem due_bound {s : St} (h : linesB s.lines = true) (h3 : 0 ≤ s.tax) (h4 : s.tax ≤ 5000) : 0 ≤ dueS s ∧ dueS s ≤ 240000000000000 := by
  obtain ⟨n1, n2⟩ := net_bound h
  obtain ⟨b1, b2⟩ := tax_bound n1 n2 h3 h4
  have h5 : net s.lines * s.tax ≤ 5000 * net s.lines := by
    have := Int.mul_le_mul_of_nonneg_left h4 n1
    omega
  unfold dueS
  omega
end Go.Proofs.Ytfdaefhamoeaiaa
namespace Go.Proofs.Ytfdaefhamoeaiaa
open Go.ChangeShapes Go.WideShapes Go.ChangeAt Go.RowKit
set_option linter.unusedVariables false
theorem wrap64_in {x : Int} (h1 : -9223372036854775808 ≤ x) (h2 : x ≤ 9223372036854775807) : wrap64 x = x := by unfold wrap64; omega
def lnA (p : Ln) : Array Value := #[.int .i64 p.item, .int .i64 p.price, .int .i64 p.qty, .int .i64 p.shipped]
set_option maxRecDepth 20000 in
theorem worth_any (i p q s W : Int) (w : World) (hW : wrap64 (q * p) = W) : Calls Try.prog 35 #[.agg #[.int .i64 i, .int .i64 p, .int .i64 q, .int .i64 s]] w fun e w' => e = .returned (.int .i64 W) ∧ Below w.heap.size w w' := by
  go_enter Try.func35, Try.ntmps35
  go_wp2
  go_ret
  exact ⟨ret_int hW, (Below.refl _ _).alloc (Nat.le_refl _) _⟩
set_option maxRecDepth 20000 in
set_option maxHeartbeats 2000000 in
theorem due_any (s : St) (a : Option Addr) (n cap : Nat) (w : World) (hn : s.lines.length = n) (hl : Lns w a s.lines) (hb : linesB s.lines = true) (ht0 : 0 ≤ s.tax) (ht : s.tax ≤ 5000) :
    Calls Try.prog 24 #[.agg (stA s (.slice a n cap))] w fun e w' => e = .returned (.int .i64 (dueS s)) ∧ Below w.heap.size w w' := by
  have HN : Hid (s.lines.length = n) := hn
  have HB : Hid (linesB s.lines = true) := hb
  have hn16 : n ≤ 16 := by rw [← hn]; exact (linesB_facts hb).1
  have HS := StC.new w s a n cap hl
  have HSH : Hid (StC w w.heap.size s a n cap (w.alloc (.cells (stA s (.slice a n cap)) 25))) := HS
  clear hn hb hl HS
  unfold stA
  go_enter Try.func24, Try.ntmps24
  go_wp2
  go_loopw [3, 11] (fun vs vi wr => ∃ (k : Nat) (S : Int), k ≤ n ∧ vs = .int .i64 S ∧ vi = .int .i64 k ∧ Hid (S = net (s.lines.take k) ∧ StC w w.heap.size s a n cap wr)) (fun _ vi _ => n - (intOf vi).toNat)
  case atStart => exact ⟨0, 0, Nat.zero_le _, rfl, rfl, by simp [net], HSH.out⟩
  case round =>
    obtain ⟨k, S, hk, rfl, rfl, HI⟩ := hrel
    by_cases hkn : k < n
    · obtain ⟨p, hp⟩ := ln_get (L := s.lines) (k := k) (by rw [HN.out]; exact hkn)
      obtain ⟨b, off, rfl, hlt, q0, q1, q2, q3⟩ := HI.out.2.2.1.cells k p hp
      have f := (linesB_facts HB.out).2 k p hp
      obtain ⟨b1, b2⟩ := worth_bound (q := p.qty) (p := p.price) (by omega) (by omega) (by omega) (by omega)
      have t1 := net_take HB.out k (by rw [HN.out]; omega)
      have t2 := net_take HB.out (k + 1) (by rw [HN.out]; omega)
      have e1 : net (s.lines.take (k + 1)) = S + p.qty * p.price := by rw [ln_take _ _ _ hp, net_append, HI.out.1]; simp [net]
      obtain ⟨W, hW⟩ : ∃ W, p.qty * p.price = W := ⟨_, rfl⟩
      rw [hW] at b1 b2 e1
      have HWW : Hid (wrap64 (p.qty * p.price) = W) := by show _ = _; rw [hW]; exact wrap64_in (by omega) (by omega)
      have hS0 : 0 ≤ S := by rw [HI.out.1]; exact t1.1
      have hS1 : S ≤ 160000000000000 := by rw [HI.out.1]; omega
      have HE : Hid (S + W = net (s.lines.take (k + 1))) := e1.symm
      clear f t1 t2 e1 hW hp
      go_wp2_with (first
        | (go_at_call 35; refine (worth_any _ _ _ _ W _ HWW.out).mono ?_; rintro _ w2 ⟨rfl, hb2⟩; have HC2 : Hid (StC w w.heap.size s (some ⟨b, off, none⟩) n cap w2) := (HI.out.2.alloc _).keep hb2; clear hb2))
      go_roundw
      case rel => exact ⟨k + 1, S + W, by omega, by go_num, by go_num, HE.out, HC2.out⟩
      case measure => simp [intOf]; omega
    · obtain rfl : k = n := by omega
      have t1 := net_bound HB.out
      have e1 : S = net s.lines := by rw [HI.out.1, List.take_of_length_le (by rw [HN.out]; omega)]
      have hS0 : 0 ≤ S := by rw [e1]; exact t1.1
      have hS1 : S ≤ 160000000000000 := by rw [e1]; exact t1.2
      obtain ⟨m1, m2⟩ := md_tax hS0 hS1 ht0 ht
      obtain ⟨b1, b2⟩ := tax_bound hS0 hS1 ht0 ht
      obtain ⟨X, hX⟩ : ∃ X, S * s.tax / 10000 = X := ⟨_, rfl⟩
      have hX0 : 0 ≤ X := by omega
      have hX1 : X ≤ 80000000000000 := by omega
      have HM : Hid (mdV S s.tax 10000 = X ∧ mdB S s.tax 10000 = true) := ⟨m1.trans hX, m2⟩
      have HD : Hid (S + X = dueS s) := by show _ = _; unfold dueS; rw [← e1, hX]
      have c4 := HI.out.2.1.cell 4 _ rfl
      clear m1 m2 b1 b2 hX e1 t1
      go_wp2_with (first
        | (go_at_call 36; refine (muldiv_any S s.tax 10000 _ (by omega) (by omega) (by omega) (by omega) (by omega) (by omega)).mono ?_; rw [HM.out.1, HM.out.2]; rintro _ w2 ⟨rfl, hb2⟩; have HC2 : Hid (StC w w.heap.size s a k cap w2) := HI.out.2.keep hb2; clear hb2))
      go_ret
      exact ⟨ret_int (by rw [← HD.out]), HC2.out.2.2⟩
/-- nothing is shipped -/
def unshB (L : List Ln) : Bool := L.all fun l => decide (l.shipped ≤ 0)
/-- every line is shipped whole -/
def wholeB (L : List Ln) : Bool := L.all fun l => decide (l.qty ≤ l.shipped)
theorem all_drop {f : Ln → Bool} {L : List Ln} {k : Nat} {p : Ln} (hp : L[k]? = some p) : (L.drop k).all f = (f p && (L.drop (k + 1)).all f) := by
  rw [ln_drop _ _ _ hp]; rfl
set_option maxRecDepth 20000 in
set_option maxHeartbeats 2000000 in
theorem unshipped_any (s : St) (a : Option Addr) (n cap : Nat) (w : World) (hn : s.lines.length = n) (hl : Lns w a s.lines) (hm : n ≤ maxLen) :
    Calls Try.prog 39 #[.agg (stA s (.slice a n cap))] w fun e w' => e = .returned (.bool (unshB s.lines)) ∧ Below w.heap.size w w' := by
  have HN : Hid (s.lines.length = n) := hn
  unfold maxLen at hm
  have HS := StC.new w s a n cap hl
  have HSH : Hid (StC w w.heap.size s a n cap (w.alloc (.cells (stA s (.slice a n cap)) 25))) := HS
  clear hn hl HS
  unfold stA
  go_enter Try.func39, Try.ntmps39
  go_wp2
  go_loopw [8] (fun vi wr => ∃ (k : Nat), k ≤ n ∧ vi = .int .i64 k ∧ Hid (unshB s.lines = (s.lines.drop k).all (fun l => decide (l.shipped ≤ 0)) ∧ StC w w.heap.size s a n cap wr)) (fun vi _ => n - (intOf vi).toNat)
  case atStart => exact ⟨0, Nat.zero_le _, rfl, rfl, HSH.out⟩
  case round =>
    obtain ⟨k, hk, rfl, HI⟩ := hrel
    by_cases hkn : k < n
    · obtain ⟨p, hp⟩ := ln_get (L := s.lines) (k := k) (by rw [HN.out]; exact hkn)
      obtain ⟨b, off, rfl, hlt, q0, q1, q2, q3⟩ := HI.out.2.2.1.cells k p hp
      have HE : Hid (unshB s.lines = (decide (p.shipped ≤ 0) && (s.lines.drop (k + 1)).all (fun l => decide (l.shipped ≤ 0)))) := HI.out.1.trans (all_drop hp)
      clear hp
      go_wp2
      all_goals first
        | (go_ret; exact ⟨ret_bool (by rw [HE.out, decide_eq_false (by omega)]; rfl), (HI.out.2.alloc _).2.2⟩)
        | (refine ⟨⟨k + 1, by omega, by go_num, by rw [HE.out, decide_eq_true (by omega)]; rfl, HI.out.2.alloc _⟩, by simp [intOf]; omega⟩)
    · have HT : Hid (unshB s.lines = true) := by show _ = _; rw [HI.out.1, List.drop_eq_nil_of_le (by rw [HN.out]; omega)]; rfl
      go_wp2
      go_ret
      exact ⟨ret_bool (by rw [HT.out]), HI.out.2.2.2⟩
set_option maxRecDepth 20000 in
set_option maxHeartbeats 2000000 in
theorem whole_any (s : St) (a : Option Addr) (n cap : Nat) (w : World) (hn : s.lines.length = n) (hl : Lns w a s.lines) (hm : n ≤ maxLen) :
    Calls Try.prog 41 #[.agg (stA s (.slice a n cap))] w fun e w' => e = .returned (.bool (wholeB s.lines)) ∧ Below w.heap.size w w' := by
  have HN : Hid (s.lines.length = n) := hn
  unfold maxLen at hm
  have HS := StC.new w s a n cap hl
  have HSH : Hid (StC w w.heap.size s a n cap (w.alloc (.cells (stA s (.slice a n cap)) 25))) := HS
  clear hn hl HS
  unfold stA
  go_enter Try.func41, Try.ntmps41
  go_wp2
  go_loopw [8] (fun vi wr => ∃ (k : Nat), k ≤ n ∧ vi = .int .i64 k ∧ Hid (wholeB s.lines = (s.lines.drop k).all (fun l => decide (l.qty ≤ l.shipped)) ∧ StC w w.heap.size s a n cap wr)) (fun vi _ => n - (intOf vi).toNat)
  case atStart => exact ⟨0, Nat.zero_le _, rfl, rfl, HSH.out⟩
  case round =>
    obtain ⟨k, hk, rfl, HI⟩ := hrel
    by_cases hkn : k < n
    · obtain ⟨p, hp⟩ := ln_get (L := s.lines) (k := k) (by rw [HN.out]; exact hkn)
      obtain ⟨b, off, rfl, hlt, q0, q1, q2, q3⟩ := HI.out.2.2.1.cells k p hp
      have HE : Hid (wholeB s.lines = (decide (p.qty ≤ p.shipped) && (s.lines.drop (k + 1)).all (fun l => decide (l.qty ≤ l.shipped)))) := HI.out.1.trans (all_drop hp)
      clear hp
      go_wp2
      all_goals first
        | (go_ret; exact ⟨ret_bool (by rw [HE.out, decide_eq_false (by omega)]; rfl), (HI.out.2.alloc _).2.2⟩)
        | (refine ⟨⟨k + 1, by omega, by go_num, by rw [HE.out, decide_eq_true (by omega)]; rfl, HI.out.2.alloc _⟩, by simp [intOf]; omega⟩)
    · have HT : Hid (wholeB s.lines = true) := by show _ = _; rw [HI.out.1, List.drop_eq_nil_of_le (by rw [HN.out]; omega)]; rfl
      go_wp2
      go_ret
      exact ⟨ret_bool (by rw [HT.out]), HI.out.2.2.2⟩
end Go.Proofs.Ytfdaefhamoeaiaa
