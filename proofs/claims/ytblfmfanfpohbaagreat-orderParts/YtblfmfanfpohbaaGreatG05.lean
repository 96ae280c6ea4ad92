/- Own texts, joined: Ov1, Ov2, Ov3, Ov4, Ov5. -/
import Derived.Test.YtblfmfanfpohbaaGreatG03
import Derived.Test.YtblfmfanfpohbaaGreatNum
import Derived.Deep.QuietTactic
import Derived.BigQuiet
namespace Go.Proofs.YtblfmfanfpohbaaGreat
open Go.ChangeShapes Go.WideShapes Go.ChangeAt Go.RowKit
set_option linter.unusedVariables false
set_option maxRecDepth 20000 in
theorem owithin_any (a x b : Int) (w : World) : Calls Tryz.prog 26 #[.int .i64 a, .int .i64 x, .int .i64 b] w fun e w' => e = .returned (.bool (wit a x b)) ∧ w = w' := by
  by_cases h1 : a ≤ x
  · by_cases h2 : x ≤ b
    · have e1 : wit a x b = true := by unfold wit; simp [h1, h2]
      rw [e1]
      go_enter Tryz.func26, Tryz.ntmps26
      go_wp2
      go_ret
      exact ⟨rfl, rfl⟩
    · have e1 : wit a x b = false := by unfold wit; simp [h1, h2]
      rw [e1]
      go_enter Tryz.func26, Tryz.ntmps26
      go_wp2
      go_ret
      exact ⟨rfl, rfl⟩
  · have e1 : wit a x b = false := by unfold wit; simp [h1]
    rw [e1]
    go_enter Tryz.func26, Tryz.ntmps26
    go_wp2
    go_ret
    exact ⟨rfl, rfl⟩
theorem wit_true {a x b : Int} : wit a x b = true ↔ a ≤ x ∧ x ≤ b := by unfold wit; simp
/-- a line behind one of item 'last' -/
def lnB (last : Int) (l : Ln) : Bool := wit (last + 1) l.item 65535 && (wit 0 l.price 100000000 && (wit 1 l.qty 100000 && wit 0 l.shipped l.qty))
def linesFrom : Int → List Ln → Bool
  | _, [] => true
  | last, l :: r => lnB last l && linesFrom l.item r
def linesB (L : List Ln) : Bool := decide (L.length ≤ 16) && linesFrom (-1) L
def net : List Ln → Int
  | [] => 0
  | l :: r => l.qty * l.price + net r
def dueS (s : St) : Int := net s.lines + net s.lines * s.tax / 10000
theorem net_append : ∀ (L M : List Ln), net (L ++ M) = net L + net M
  | [], M => by simp [net]
  | p :: r, M => by simp only [List.cons_append, net, net_append r M]; omega
theorem lnB_facts {last : Int} {l : Ln} (h : lnB last l = true) : last < l.item ∧ l.item ≤ 65535 ∧ 0 ≤ l.price ∧ l.price ≤ 100000000 ∧ 1 ≤ l.qty ∧ l.qty ≤ 100000 ∧ 0 ≤ l.shipped ∧ l.shipped ≤ l.qty := by
  simp only [lnB, Bool.and_eq_true, wit_true] at h
  omega
theorem linesFrom_get : ∀ {L : List Ln} {last : Int} {k : Nat} {p : Ln}, linesFrom last L = true → L[k]? = some p → ∃ m, lnB m p = true
  | l :: r, last, 0, p, h, hp => by
    simp only [linesFrom, Bool.and_eq_true] at h
    simp at hp; subst hp
    exact ⟨last, h.1⟩
  | l :: r, last, k + 1, p, h, hp => by
    simp only [linesFrom, Bool.and_eq_true] at h
    exact linesFrom_get h.2 (by simpa using hp)
  | [], last, k, p, h, hp => by simp at hp
theorem linesB_facts {L : List Ln} (h : linesB L = true) : L.length ≤ 16 ∧ ∀ (k : Nat) (p : Ln), L[k]? = some p → 0 ≤ p.item ∧ p.item ≤ 65535 ∧ 0 ≤ p.price ∧ p.price ≤ 100000000 ∧ 1 ≤ p.qty ∧ p.qty ≤ 100000 ∧ 0 ≤ p.shipped ∧ p.shipped ≤ p.qty := by
  simp only [linesB, Bool.and_eq_true, decide_eq_true_eq] at h
  refine ⟨h.1, ?_⟩
  have key : ∀ (L : List Ln) (last : Int), -1 ≤ last → linesFrom last L = true → ∀ (k : Nat) (p : Ln), L[k]? = some p → 0 ≤ p.item ∧ p.item ≤ 65535 ∧ 0 ≤ p.price ∧ p.price ≤ 100000000 ∧ 1 ≤ p.qty ∧ p.qty ≤ 100000 ∧ 0 ≤ p.shipped ∧ p.shipped ≤ p.qty := by
    intro L
    induction L with
    | nil => intro last _ _ k p hp; simp at hp
    | cons l r ih =>
      intro last h0 hl k p hp
      simp only [linesFrom, Bool.and_eq_true] at hl
      have f := lnB_facts hl.1
      cases k with
      | zero => simp at hp; subst hp; omega
      | succ k => exact ih l.item (by omega) hl.2 k p (by simpa using hp)
  exact key L (-1) (by omega) h.2
theorem worth_bound {q p : Int} (h1 : 0 ≤ q) (h2 : q ≤ 100000) (h3 : 0 ≤ p) (h4 : p ≤ 100000000) : 0 ≤ q * p ∧ q * p ≤ 10000000000000 :=
  ⟨Int.mul_nonneg h1 h3, Int.le_trans (Int.mul_le_mul h2 h4 h3 (by omega)) (by decide)⟩
theorem net_take {L : List Ln} (h : linesB L = true) : ∀ k, k ≤ L.length → 0 ≤ net (L.take k) ∧ net (L.take k) ≤ 10000000000000 * (k : Int) := by
  obtain ⟨h16, hall⟩ := linesB_facts h
  intro k
  induction k with
  | zero => intro _; simp [net]
  | succ k ih =>
    intro hk
    obtain ⟨p, hp⟩ := ln_get (L := L) (k := k) (by omega)
    have f := hall k p hp
    obtain ⟨i1, i2⟩ := ih (by omega)
    obtain ⟨b1, b2⟩ := worth_bound (q := p.qty) (p := p.price) (by omega) (by omega) (by omega) (by omega)
    rw [ln_take L k p hp, net_append]
    simp only [net]
    omega
theorem net_bound {L : List Ln} (h : linesB L = true) : 0 ≤ net L ∧ net L ≤ 160000000000000 := by
  have h1 := net_take h L.length (Nat.le_refl _)
  rw [List.take_length] at h1
  have h2 := (linesB_facts h).1
  omega
theorem tax_bound {n t : Int} (h1 : 0 ≤ n) (h2 : n ≤ 160000000000000) (h3 : 0 ≤ t) (h4 : t ≤ 5000) : 0 ≤ n * t ∧ n * t ≤ 800000000000000000 :=
  ⟨Int.mul_nonneg h1 h3, Int.le_trans (Int.mul_le_mul h2 h4 h3 (by omega)) (by decide)⟩
theorem md_tax {n t : Int} (h1 : 0 ≤ n) (h2 : n ≤ 160000000000000) (h3 : 0 ≤ t) (h4 : t ≤ 5000) : mdV n t 10000 = n * t / 10000 ∧ mdB n t 10000 = true := by
  obtain ⟨b1, b2⟩ := tax_bound h1 h2 h3 h4
  have e1 : mdq n t 10000 = n * t / 10000 := by
    unfold mdq
    rw [decide_eq_false (by omega : ¬ n < 0), decide_eq_false (by omega : ¬ t < 0), decide_eq_false (by decide : ¬ (10000 : Int) < 0)]
    show ((n.natAbs * t.natAbs / 10000 : Nat) : Int) = n * t / 10000
    rw [← Int.natAbs_mul]
    have : ((n * t).natAbs : Int) = n * t := by omega
    rw [Int.natCast_ediv, this]; rfl
  have e2 : inI (n * t / 10000) := by
    show -9223372036854775808 ≤ _ ∧ _ ≤ 9223372036854775807
    omega
  unfold mdV mdB
  rw [if_neg (by decide), if_neg (by decide), e1]
  exact fit_in _ e2
theorem due_bound {s : St} (h : linesB s.lines = true) (h3 : 0 ≤ s.tax) (h4 : s.tax ≤ 5000) : 0 ≤ dueS s ∧ dueS s ≤ 240000000000000 := by
  obtain ⟨n1, n2⟩ := net_bound h
  obtain ⟨b1, b2⟩ := tax_bound n1 n2 h3 h4
  have h5 : net s.lines * s.tax ≤ 5000 * net s.lines := by
    have := Int.mul_le_mul_of_nonneg_left h4 n1
    omega
  unfold dueS
  omega
end Go.Proofs.YtblfmfanfpohbaaGreat
namespace Go.Proofs.YtblfmfanfpohbaaGreat
open Go.ChangeShapes Go.WideShapes Go.ChangeAt Go.RowKit
set_option linter.unusedVariables false
theorem wrap64_in {x : Int} (h1 : -9223372036854775808 ≤ x) (h2 : x ≤ 9223372036854775807) : wrap64 x = x := by unfold wrap64; omega
def lnA (p : Ln) : Array Value := #[.int .i64 p.item, .int .i64 p.price, .int .i64 p.qty, .int .i64 p.shipped]
set_option maxRecDepth 20000 in
theorem worth_any (i p q s W : Int) (w : World) (hW : wrap64 (q * p) = W) : Calls Tryz.prog 17 #[.agg #[.int .i64 i, .int .i64 p, .int .i64 q, .int .i64 s]] w fun e w' => e = .returned (.int .i64 W) ∧ Below w.heap.size w w' := by
  go_enter Tryz.func17, Tryz.ntmps17
  go_wp2
  go_ret
  exact ⟨ret_int hW, (Below.refl _ _).alloc (Nat.le_refl _) _⟩
set_option maxRecDepth 20000 in
set_option maxHeartbeats 2000000 in
theorem due_any (s : St) (a : Option Addr) (n cap : Nat) (w : World) (hn : s.lines.length = n) (hl : Lns w a s.lines) (hb : linesB s.lines = true) (ht0 : 0 ≤ s.tax) (ht : s.tax ≤ 5000) :
    Calls Tryz.prog 19 #[.agg (stA s (.slice a n cap))] w fun e w' => e = .returned (.int .i64 (dueS s)) ∧ Below w.heap.size w w' := by
  have HN : Hid (s.lines.length = n) := hn
  have HB : Hid (linesB s.lines = true) := hb
  have hn16 : n ≤ 16 := by rw [← hn]; exact (linesB_facts hb).1
  have HS := StC.new w s a n cap hl
  have HSH : Hid (StC w w.heap.size s a n cap (w.alloc (.cells (stA s (.slice a n cap)) 25))) := HS
  clear hn hb hl HS
  unfold stA
  go_enter Tryz.func19, Tryz.ntmps19
  go_wp2
  go_loopw [3, 11] (fun vs vi wr => ∃ (k : Nat) (S : Int), k ≤ n ∧ vs = .int .i64 S ∧ vi = .int .i64 k ∧ Hid (S = net (s.lines.take k) ∧ StC w w.heap.size s a n cap wr)) (fun _ vi _ => n - (intOf vi).toNat)
  case atStart => exact ⟨0, 0, Nat.zero_le _, rfl, rfl, by simp [net], HSH.out⟩
  case round =>
    obtain ⟨k, S, hk, rfl, rfl, HI⟩ := hrel
    by_cases hkn : k < n
    · obtain ⟨p, hp⟩ := ln_get (L := s.lines) (k := k) (by rw [HN.out]; exact hkn)
      obtain ⟨b, off, rfl, hlt, q0, q1, q2, q3⟩ := HI.out.2.2.1.cells k p hp
      have f := (linesB_facts HB.out).2 k p hp
      obtain ⟨b1, b2⟩ := worth_bound (q := p.qty) (p := p.price) (by omega) (by omega) (by omega) (by omega)
      have t1 := net_take HB.out k (by rw [HN.out]; omega)
      have t2 := net_take HB.out (k + 1) (by rw [HN.out]; omega)
      have e1 : net (s.lines.take (k + 1)) = S + p.qty * p.price := by rw [ln_take _ _ _ hp, net_append, HI.out.1]; simp [net]
      obtain ⟨W, hW⟩ : ∃ W, p.qty * p.price = W := ⟨_, rfl⟩
      rw [hW] at b1 b2 e1
      have HWW : Hid (wrap64 (p.qty * p.price) = W) := by show _ = _; rw [hW]; exact wrap64_in (by omega) (by omega)
      have hS0 : 0 ≤ S := by rw [HI.out.1]; exact t1.1
      have hS1 : S ≤ 160000000000000 := by rw [HI.out.1]; omega
      have HE : Hid (S + W = net (s.lines.take (k + 1))) := e1.symm
      clear f t1 t2 e1 hW hp
      go_wp2_with (first
        | (go_at_call 17; refine (worth_any _ _ _ _ W _ HWW.out).mono ?_; rintro _ w2 ⟨rfl, hb2⟩; have HC2 : Hid (StC w w.heap.size s (some ⟨b, off, none⟩) n cap w2) := (HI.out.2.alloc _).keep hb2; clear hb2))
      go_roundw
      case rel => exact ⟨k + 1, S + W, by omega, by go_num, by go_num, HE.out, HC2.out⟩
      case measure => simp [intOf]; omega
    · obtain rfl : k = n := by omega
      have t1 := net_bound HB.out
      have e1 : S = net s.lines := by rw [HI.out.1, List.take_of_length_le (by rw [HN.out]; omega)]
      have hS0 : 0 ≤ S := by rw [e1]; exact t1.1
      have hS1 : S ≤ 160000000000000 := by rw [e1]; exact t1.2
      obtain ⟨m1, m2⟩ := md_tax hS0 hS1 ht0 ht
      obtain ⟨b1, b2⟩ := tax_bound hS0 hS1 ht0 ht
      obtain ⟨X, hX⟩ : ∃ X, S * s.tax / 10000 = X := ⟨_, rfl⟩
      have hX0 : 0 ≤ X := by omega
      have hX1 : X ≤ 80000000000000 := by omega
      have HM : Hid (mdV S s.tax 10000 = X ∧ mdB S s.tax 10000 = true) := ⟨m1.trans hX, m2⟩
      have HD : Hid (S + X = dueS s) := by show _ = _; unfold dueS; rw [← e1, hX]
      have c4 := HI.out.2.1.cell 4 _ rfl
      clear m1 m2 b1 b2 hX e1 t1
      go_wp2_with (first
        | (go_at_call 46; refine (muldiv_any S s.tax 10000 _ (by omega) (by omega) (by omega) (by omega) (by omega) (by omega)).mono ?_; rw [HM.out.1, HM.out.2]; rintro _ w2 ⟨rfl, hb2⟩; have HC2 : Hid (StC w w.heap.size s a k cap w2) := HI.out.2.keep hb2; clear hb2))
      go_ret
      exact ⟨ret_int (by rw [← HD.out]), HC2.out.2.2⟩
/-- nothing is shipped -/
def unshB (L : List Ln) : Bool := L.all fun l => decide (l.shipped ≤ 0)
/-- every line is shipped whole -/
def wholeB (L : List Ln) : Bool := L.all fun l => decide (l.qty ≤ l.shipped)
theorem all_drop {f : Ln → Bool} {L : List Ln} {k : Nat} {p : Ln} (hp : L[k]? = some p) : (L.drop k).all f = (f p && (L.drop (k + 1)).all f) := by
  rw [ln_drop _ _ _ hp]; rfl
set_option maxRecDepth 20000 in
set_option maxHeartbeats 2000000 in
theorem unshipped_any (s : St) (a : Option Addr) (n cap : Nat) (w : World) (hn : s.lines.length = n) (hl : Lns w a s.lines) (hm : n ≤ maxLen) :
    Calls Tryz.prog 60 #[.agg (stA s (.slice a n cap))] w fun e w' => e = .returned (.bool (unshB s.lines)) ∧ Below w.heap.size w w' := by
  have HN : Hid (s.lines.length = n) := hn
  unfold maxLen at hm
  have HS := StC.new w s a n cap hl
  have HSH : Hid (StC w w.heap.size s a n cap (w.alloc (.cells (stA s (.slice a n cap)) 25))) := HS
  clear hn hl HS
  unfold stA
  go_enter Tryz.func60, Tryz.ntmps60
  go_wp2
  go_loopw [8] (fun vi wr => ∃ (k : Nat), k ≤ n ∧ vi = .int .i64 k ∧ Hid (unshB s.lines = (s.lines.drop k).all (fun l => decide (l.shipped ≤ 0)) ∧ StC w w.heap.size s a n cap wr)) (fun vi _ => n - (intOf vi).toNat)
  case atStart => exact ⟨0, Nat.zero_le _, rfl, rfl, HSH.out⟩
  case round =>
    obtain ⟨k, hk, rfl, HI⟩ := hrel
    by_cases hkn : k < n
    · obtain ⟨p, hp⟩ := ln_get (L := s.lines) (k := k) (by rw [HN.out]; exact hkn)
      obtain ⟨b, off, rfl, hlt, q0, q1, q2, q3⟩ := HI.out.2.2.1.cells k p hp
      have HE : Hid (unshB s.lines = (decide (p.shipped ≤ 0) && (s.lines.drop (k + 1)).all (fun l => decide (l.shipped ≤ 0)))) := HI.out.1.trans (all_drop hp)
      clear hp
      go_wp2
      all_goals first
        | (go_ret; exact ⟨ret_bool (by rw [HE.out, decide_eq_false (by omega)]; rfl), (HI.out.2.alloc _).2.2⟩)
        | (refine ⟨⟨k + 1, by omega, by go_num, by rw [HE.out, decide_eq_true (by omega)]; rfl, HI.out.2.alloc _⟩, by simp [intOf]; omega⟩)
    · have HT : Hid (unshB s.lines = true) := by show _ = _; rw [HI.out.1, List.drop_eq_nil_of_le (by rw [HN.out]; omega)]; rfl
      go_wp2
      go_ret
      exact ⟨ret_bool (by rw [HT.out]), HI.out.2.2.2⟩
set_option maxRecDepth 20000 in
set_option maxHeartbeats 2000000 in
theorem whole_any (s : St) (a : Option Addr) (n cap : Nat) (w : World) (hn : s.lines.length = n) (hl : Lns w a s.lines) (hm : n ≤ maxLen) :
    Calls Tryz.prog 74 #[.agg (stA s (.slice a n cap))] w fun e w' => e = .returned (.bool (wholeB s.lines)) ∧ Below w.heap.size w w' := by
  have HN : Hid (s.lines.length = n) := hn
  unfold maxLen at hm
  have HS := StC.new w s a n cap hl
  have HSH : Hid (StC w w.heap.size s a n cap (w.alloc (.cells (stA s (.slice a n cap)) 25))) := HS
  clear hn hl HS
  unfold stA
  go_enter Tryz.func74, Tryz.ntmps74
  go_wp2
  go_loopw [8] (fun vi wr => ∃ (k : Nat), k ≤ n ∧ vi = .int .i64 k ∧ Hid (wholeB s.lines = (s.lines.drop k).all (fun l => decide (l.qty ≤ l.shipped)) ∧ StC w w.heap.size s a n cap wr)) (fun vi _ => n - (intOf vi).toNat)
  case atStart => exact ⟨0, Nat.zero_le _, rfl, rfl, HSH.out⟩
  case round =>
    obtain ⟨k, hk, rfl, HI⟩ := hrel
    by_cases hkn : k < n
    · obtain ⟨p, hp⟩ := ln_get (L := s.lines) (k := k) (by rw [HN.out]; exact hkn)
      obtain ⟨b, off, rfl, hlt, q0, q1, q2, q3⟩ := HI.out.2.2.1.cells k p hp
      have HE : Hid (wholeB s.lines = (decide (p.qty ≤ p.shipped) && (s.lines.drop (k + 1)).all (fun l => decide (l.qty ≤ l.shipped)))) := HI.out.1.trans (all_drop hp)
      clear hp
      go_wp2
      all_goals first
        | (go_ret; exact ⟨ret_bool (by rw [HE.out, decide_eq_false (by omega)]; rfl), (HI.out.2.alloc _).2.2⟩)
        | (refine ⟨⟨k + 1, by omega, by go_num, by rw [HE.out, decide_eq_true (by omega)]; rfl, HI.out.2.alloc _⟩, by simp [intOf]; omega⟩)
    · have HT : Hid (wholeB s.lines = true) := by show _ = _; rw [HI.out.1, List.drop_eq_nil_of_le (by rw [HN.out]; omega)]; rfl
      go_wp2
      go_ret
      exact ⟨ret_bool (by rw [HT.out]), HI.out.2.2.2⟩
end Go.Proofs.YtblfmfanfpohbaaGreat
namespace Go.Proofs.YtblfmfanfpohbaaGreat
open Go.ChangeShapes Go.WideShapes Go.ChangeAt Go.RowKit
set_option linter.unusedVariables false
def whoE (who : ByteArray) : Ev := ⟨1, 1, 0, 0, 0, 0, 0, who, 0, ⟨#[]⟩⟩
def whoB (who : ByteArray) : Bool := chk 5 (whoE who) == 0
set_option maxRecDepth 20000 in
set_option maxHeartbeats 1000000 in
theorem rightWho_any (who : ByteArray) (w : World) : Calls Tryz.prog 70 #[.string who] w fun e w' => e = .returned (.bool (whoB who)) ∧ Below w.heap.size w w' := by
  obtain ⟨c, hc⟩ : ∃ c, chk 5 (whoE who) = c := ⟨_, rfl⟩
  have HC : Hid (_) := hc
  have HW : Hid (whoB who = (c == 0)) := by show _ = _; unfold whoB; rw [hc]
  have HA : Hid (EvAt (w.alloc (.cells (evA zeroE) 38)) w.heap.size zeroE) := evAt_new w zeroE
  have HAB : Hid (Below w.heap.size w (w.alloc (.cells (evA zeroE) 38))) := (Below.refl _ _).alloc (Nat.le_refl _) _
  clear hc
  rw [HW.out]
  go_enter Tryz.func70, Tryz.ntmps70
  go_wp2_with (first
    | ((with_reducible refine guard_store 38 ?_); refine wpList_store_ev (e := zeroE) (e2 := whoE who) rfl _ _ rfl HA.out rfl rfl ?_; intro x1 z1 z2 z3 z4; have HE1 : Hid (EvAt x1 w.heap.size (whoE who)) := z1; have HB1 : Hid (Below w.heap.size w x1) := z2 _ _ HAB.out (Nat.le_refl _); clear z1 z2 z3 z4)
    | ((with_reducible refine guard_load 38 ?_); refine wpList_load_ev rfl _ rfl HE1.out rfl ?_)
    | (go_at_call 96; refine (check_ev 5 (whoE who) _).mono ?_; rw [HC.out]; rintro _ x2 ⟨rfl, hb2⟩; have HB2 : Hid (Below w.heap.size w x2) := below_next HB1.out hb2; clear hb2))
  go_ret
  exact ⟨rfl, HB2.out⟩
def standS (s : St) : Int := if s.status = 2 then s.prior else s.status
set_option maxRecDepth 20000 in
theorem stands_any (s : St) (a : Option Addr) (n cap : Nat) (w : World) : Calls Tryz.prog 71 #[.agg (stA s (.slice a n cap))] w fun e w' => e = .returned (.int .i64 (standS s)) ∧ Below w.heap.size w w' := by
  by_cases h : s.status = 2
  · have HS : Hid (standS s = s.prior) := if_pos h
    have hb : (s.status == 2) = true := by simpa using h
    rw [HS.out]
    clear h
    unfold stA
    go_enter Tryz.func71, Tryz.ntmps71
    go_wp2
    go_ret
    exact ⟨rfl, (Below.refl _ _).alloc (Nat.le_refl _) _⟩
  · have HS : Hid (standS s = s.status) := if_neg h
    have hb : (s.status == 2) = false := by simpa using h
    rw [HS.out]
    clear h
    unfold stA
    go_enter Tryz.func71, Tryz.ntmps71
    go_wp2
    go_ret
    exact ⟨rfl, (Below.refl _ _).alloc (Nat.le_refl _) _⟩
def priorB (s : St) : Bool := if s.status = 2 then (s.prior == 1 || s.prior == 3) else s.prior == 0
set_option maxRecDepth 20000 in
theorem prior_any (s : St) (a : Option Addr) (n cap : Nat) (w : World) : Calls Tryz.prog 25 #[.agg (stA s (.slice a n cap))] w fun e w' => e = .returned (.bool (priorB s)) ∧ Below w.heap.size w w' := by
  by_cases h : s.status = 2
  · have HS : Hid (priorB s = (s.prior == 1 || s.prior == 3)) := if_pos h
    have hb : (s.status == 2) = true := by simpa using h
    rw [HS.out]
    clear h
    unfold stA
    cases h1 : s.prior == 1
    · go_enter Tryz.func25, Tryz.ntmps25
      go_wp2
      go_ret
      exact ⟨rfl, (Below.refl _ _).alloc (Nat.le_refl _) _⟩
    · go_enter Tryz.func25, Tryz.ntmps25
      go_wp2
      go_ret
      exact ⟨rfl, (Below.refl _ _).alloc (Nat.le_refl _) _⟩
  · have HS : Hid (priorB s = (s.prior == 0)) := if_neg h
    have hb : (s.status == 2) = false := by simpa using h
    rw [HS.out]
    clear h
    unfold stA
    go_enter Tryz.func25, Tryz.ntmps25
    go_wp2
    go_ret
    exact ⟨rfl, (Below.refl _ _).alloc (Nat.le_refl _) _⟩
theorem rightLines_step {L : List Ln} {k : Nat} {p : Ln} {last : Int} (hp : L[k]? = some p) : linesFrom last (L.drop k) = (lnB last p && linesFrom p.item (L.drop (k + 1))) := by
  rw [ln_drop _ _ _ hp]; rfl
set_option maxRecDepth 20000 in
set_option maxHeartbeats 4000000 in
theorem rightLines_any (L : List Ln) (a : Option Addr) (n cap : Nat) (w : World) (hn : L.length = n) (hl : Lns w a L) (hm : n ≤ maxLen) :
    Calls Tryz.prog 24 #[.slice a n cap] w fun e w' => e = .returned (.bool (linesB L)) ∧ Below w.heap.size w w' := by
  unfold maxLen at hm
  by_cases h16 : n ≤ 16
  · have HN : Hid (L.length = n) := hn
    have HV : Hid (linesB L = linesFrom (-1) (L.drop 0)) := by show _ = _; unfold linesB; rw [decide_eq_true (by omega)]; rfl
    have HLN : Hid (Lns w a L) := hl
    clear hn hl
    go_enter Tryz.func24, Tryz.ntmps24
    go_wp2
    go_loopw [3, 12] (fun vl vi wr => ∃ (k : Nat) (l : Int), k ≤ n ∧ vl = .int .i64 l ∧ vi = .int .i64 k ∧ -1 ≤ l ∧ l ≤ 65535 ∧ Hid (linesB L = linesFrom l (L.drop k) ∧ Below w.heap.size w wr)) (fun _ vi _ => n - (intOf vi).toNat)
    case atStart => exact ⟨0, -1, Nat.zero_le _, rfl, rfl, by omega, by omega, HV.out, Below.refl _ _⟩
    case round =>
      clear HV
      obtain ⟨k, l, hk, rfl, rfl, hl0, hl1, HI⟩ := hrel
      by_cases hkn : k < n
      · obtain ⟨p, hp⟩ := ln_get (L := L) (k := k) (by rw [HN.out]; exact hkn)
        obtain ⟨b, off, rfl, hlt, q0, q1, q2, q3⟩ := (HLN.out.keep HI.out.2).cells k p hp
        have HE : Hid (linesB L = (lnB l p && linesFrom p.item (L.drop (k + 1)))) := HI.out.1.trans (rightLines_step hp)
        have HB2 : ∀ o, Hid (Below w.heap.size w (wr.alloc o)) := fun o => HI.out.2.alloc HI.out.2.size o
        clear hp
        have hF : lnB l p = (wit (l + 1) p.item 65535 && (wit 0 p.price 100000000 && (wit 1 p.qty 100000 && wit 0 p.shipped p.qty))) := rfl
        have HF : Hid (_) := hF
        clear hF
        go_wp2_with (first
          | (go_at_call 26; refine (owithin_any _ _ _ _).mono ?_; rintro _ _ ⟨rfl, rfl⟩; generalize hq : wit _ _ _ = q; cases q))
        all_goals first
          | (go_ret; exact ⟨ret_bool (by rw [HE.out, HF.out]; simp only [*]; rfl), (HB2 _).out⟩)
          | (have hA : lnB l p = true := (by rw [HF.out]; simp only [*]; rfl)
             have hB := lnB_facts hA
             refine ⟨⟨k + 1, p.item, by omega, by go_num, by go_num, by omega, by omega, by rw [HE.out, hA]; rfl, (HB2 _).out⟩, by simp [intOf]; omega⟩)
      · have HT : Hid (linesB L = true) := by show _ = _; rw [HI.out.1, List.drop_eq_nil_of_le (by rw [HN.out]; omega)]; rfl
        go_wp2
        go_ret
        exact ⟨ret_bool (by rw [HT.out]), HI.out.2⟩
  · have HF : Hid (linesB L = false) := by show _ = _; unfold linesB; rw [decide_eq_false (by omega)]; rfl
    clear hn hl
    go_enter Tryz.func24, Tryz.ntmps24
    go_wp2
    go_ret
    exact ⟨ret_bool (by rw [HF.out]), Below.refl _ _⟩
def bndS (s : St) : Bool := wit 1 s.order 1099511627776 && (wit 0 s.status 5 && (wit 0 s.cur 3 && (wit 0 s.tax 5000 && (wit 0 s.events 1099511627776 && (wit 0 s.refused s.events && (wit 0 s.stamp 1099511627776 && whoB s.who))))))
set_option maxRecDepth 20000 in
set_option maxHeartbeats 4000000 in
theorem bounded_any (s : St) (a : Option Addr) (n cap : Nat) (w : World) : Calls Tryz.prog 23 #[.agg (stA s (.slice a n cap))] w fun e w' => e = .returned (.bool (bndS s)) ∧ Below w.heap.size w w' := by
  have HF : Hid (bndS s = (wit 1 s.order 1099511627776 && (wit 0 s.status 5 && (wit 0 s.cur 3 && (wit 0 s.tax 5000 && (wit 0 s.events 1099511627776 && (wit 0 s.refused s.events && (wit 0 s.stamp 1099511627776 && whoB s.who)))))))) := rfl
  have HB1 : ∀ o, Hid (Below w.heap.size w (w.alloc o)) := fun o => (Below.refl _ _).alloc (Nat.le_refl _) _
  unfold stA
  go_enter Tryz.func23, Tryz.ntmps23
  go_wp2_with (first
    | (go_at_call 26; refine (owithin_any _ _ _ _).mono ?_; rintro _ _ ⟨rfl, rfl⟩; generalize hq : wit _ _ _ = q; cases q)
    | (go_at_call 70; refine (rightWho_any _ _).mono ?_; rintro _ w2 ⟨rfl, hb2⟩; have HB2 : Hid (Below w.heap.size w w2) := below_next (HB1 _).out hb2; clear hb2))
  all_goals first
    | (go_ret; exact ⟨ret_bool (by rw [HF.out]; simp only [*]; rfl), HB2.out⟩)
    | (go_ret; exact ⟨ret_bool (by rw [HF.out]; simp only [*]; rfl), (HB1 _).out⟩)
end Go.Proofs.YtblfmfanfpohbaaGreat
namespace Go.Proofs.YtblfmfanfpohbaaGreat
open Go.ChangeShapes Go.WideShapes Go.ChangeAt Go.RowKit
set_option linter.unusedVariables false
def untB (s : St) : Bool := s.lines.length == 0 && (s.cur == 0 && (s.tax == 0 && (s.paid == 0 && (s.stamp == 0 && (s.who.toList == [] && s.refused == s.events)))))
theorem toList_nil {x : ByteArray} : (x.toList == []) = true ↔ x = ⟨#[]⟩ := by
  constructor
  · intro h
    have h1 : x.toList = [] := by simpa using h
    rw [ByteArray.toList_eq] at h1
    apply ByteArray.ext
    simpa using h1
  · rintro rfl
    rw [ByteArray.toList_eq]
    rfl
set_option maxRecDepth 20000 in
set_option maxHeartbeats 2000000 in
theorem untouched_any (s : St) (a : Option Addr) (n cap : Nat) (w : World) (hn : s.lines.length = n) : Calls Tryz.prog 72 #[.agg (stA s (.slice a n cap))] w fun e w' => e = .returned (.bool (untB s)) ∧ Below w.heap.size w w' := by
  have HF : Hid (untB s = (((n : Int) == 0) && (s.cur == 0 && (s.tax == 0 && (s.paid == 0 && (s.stamp == 0 && (s.who.toList == [] && s.refused == s.events))))))) := by
    show _ = _
    unfold untB
    rw [hn]
    congr 1
    cases n <;> rfl
  have HB1 : ∀ o, Hid (Below w.heap.size w (w.alloc o)) := fun o => (Below.refl _ _).alloc (Nat.le_refl _) _
  clear hn
  rw [HF.out]
  unfold stA
  cases h0 : ((n : Int) == 0) <;> cases h1 : (s.cur == 0) <;> cases h2 : (s.tax == 0) <;> cases h3 : (s.paid == 0) <;> cases h4 : (s.stamp == 0) <;> cases h5 : s.who.toList == [] <;> (
  go_enter Tryz.func72, Tryz.ntmps72
  go_wp2
  go_ret
  exact ⟨rfl, (HB1 _).out⟩)
def paidB (s : St) : Bool := decide (0 < s.paid) && s.paid == dueS s
end Go.Proofs.YtblfmfanfpohbaaGreat
namespace Go.Proofs.YtblfmfanfpohbaaGreat
open Go.ChangeShapes Go.WideShapes Go.ChangeAt Go.RowKit
set_option linter.unusedVariables false
set_option linter.unusedSimpArgs false
set_option maxRecDepth 20000 in
set_option maxHeartbeats 4000000 in
theorem paidUp_any (s : St) (a : Option Addr) (n cap : Nat) (w : World) (hn : s.lines.length = n) (hl : Lns w a s.lines) (hb : linesB s.lines = true) (ht0 : 0 ≤ s.tax) (ht : s.tax ≤ 5000) :
    Calls Tryz.prog 73 #[.agg (stA s (.slice a n cap))] w fun e w' => e = .returned (.bool (paidB s)) ∧ Below w.heap.size w w' := by
  have HE := (StC.new w s a n cap hl).drew
  obtain ⟨E, hE⟩ : ∃ E, StC w w.heap.size s a n cap = E := ⟨_, rfl⟩
  have R : Hid (∀ w2, E w2 → w2.cell? ⟨w.heap.size, 6, none⟩ = some (.int .i64 s.paid) ∧ w2.cell? ⟨w.heap.size, 7, none⟩ = some (.int .i64 s.refunded) ∧ w2.cell? ⟨w.heap.size, 5, none⟩ = some (.slice a n cap)) := fun w2 h => by rw [← hE] at h; exact ⟨h.1.cell 6 _ rfl, h.1.cell 7 _ rfl, h.1.cell 5 _ rfl⟩
  have RS : Hid (∀ w2, E w2 → StAt w2 w.heap.size s (.slice a n cap)) := fun w2 h => by rw [← hE] at h; exact h.1
  have HBel : Hid (∀ w2, E w2 → Below w.heap.size w w2) := fun w2 h => by rw [← hE] at h; exact h.2.2
  have HLn : Hid (∀ w2, E w2 → Lns w2 a s.lines) := fun w2 h => by rw [← hE] at h; exact h.2.1
  have HK : Hid (∀ w1 w2, E w1 → Below w1.heap.size w1 w2 → E w2) := fun w1 w2 h h2 => by rw [← hE] at h ⊢; exact h.keep h2
  have CD : Hid (∀ w2, E w2 → Calls Tryz.prog 19 #[.agg (stA s (.slice a n cap))] w2 fun e w' => e = .returned (.int .i64 (dueS s)) ∧ E w') := fun w2 h => (due_any s a n cap w2 hn (HLn.out w2 h) hb ht0 ht).mono fun e w' ⟨h1, h2⟩ => ⟨h1, HK.out _ _ h h2⟩
  obtain ⟨D, hD⟩ : ∃ D, dueS s = D := ⟨_, rfl⟩
  have HP : Hid (paidB s = (decide (0 < s.paid) && s.paid == D)) := by show _ = _; unfold paidB; rw [hD]
  rw [hD] at CD
  rw [HP.out]
  rw [hE] at HE
  have HEE : Hid (E (World.drew _)) := HE
  clear hn hl hb hD hE HE
  by_cases h0 : 0 < s.paid
  · rw [decide_eq_true h0]
    have hd := decide_eq_true h0
    go_enter Tryz.func73, Tryz.ntmps73
    go_wp2
    refine wp_region_quiet (C := E) (by kernel_rfl) (by kernel_rfl) HEE.out ?_
    simp only [List.toList_toArray]
    repeat (any_goals (first
      | go_big_quiet_skip
      | (go_big_quiet_want
         first
         | (refine quiet_val (v := .agg (stA s (.slice a n cap))) (fun w2 hw2 => exec_load_st (.tmp 1) rfl rfl (RS.out w2 hw2)) ?_
            go_big_quiet_on
            simp only [Act.put, List.setIfInBounds_toArray, List.set_cons_zero, List.set_cons_succ])
         | (refine quiet_val (v := ?_) (fun w2 hw2 => ?_) ?_
            rotate_left
            · (first | (go_simp; with_reducible rfl) | (obtain ⟨q1, q2, q3⟩ := R.out w2 hw2; go_simp; with_reducible rfl))
            go_big_quiet_on
            simp only [Act.put, List.setIfInBounds_toArray, List.set_cons_zero, List.set_cons_succ])
         | (refine quiet_call (v := ?_) (f := ?_) (args := ?_) (fun w2 hw2 => ?_) (fun w2 hw2 => ?_) ?_
            rotate_left 3
            · (go_simp; refine ⟨?_, ?_⟩ <;> with_reducible rfl)
            · (skip; exact CD.out _ hw2)
            (go_big_quiet_on; simp only [Act.put, List.setIfInBounds_toArray, List.set_cons_zero, List.set_cons_succ])))))
    all_goals
      refine wpQuiet_nil ?_
      intro w3 hw3
      go_wp2
      go_ret
      exact ⟨ret_bool (by simp), HBel.out _ hw3⟩
  · rw [decide_eq_false h0]
    have hd := decide_eq_false h0
    go_enter Tryz.func73, Tryz.ntmps73
    go_wp2
    refine wp_region_quiet (C := E) (by kernel_rfl) (by kernel_rfl) HEE.out ?_
    simp only [List.toList_toArray]
    repeat (any_goals (first
      | go_big_quiet_skip
      | (go_big_quiet_want
         first
         | (refine quiet_val (v := .agg (stA s (.slice a n cap))) (fun w2 hw2 => exec_load_st (.tmp 1) rfl rfl (RS.out w2 hw2)) ?_
            go_big_quiet_on
            simp only [Act.put, List.setIfInBounds_toArray, List.set_cons_zero, List.set_cons_succ])
         | (refine quiet_val (v := ?_) (fun w2 hw2 => ?_) ?_
            rotate_left
            · (first | (go_simp; with_reducible rfl) | (obtain ⟨q1, q2, q3⟩ := R.out w2 hw2; go_simp; with_reducible rfl))
            go_big_quiet_on
            simp only [Act.put, List.setIfInBounds_toArray, List.set_cons_zero, List.set_cons_succ])
         | (refine quiet_call (v := ?_) (f := ?_) (args := ?_) (fun w2 hw2 => ?_) (fun w2 hw2 => ?_) ?_
            rotate_left 3
            · (go_simp; refine ⟨?_, ?_⟩ <;> with_reducible rfl)
            · (skip; exact CD.out _ hw2)
            (go_big_quiet_on; simp only [Act.put, List.setIfInBounds_toArray, List.set_cons_zero, List.set_cons_succ])))))
    all_goals
      refine wpQuiet_nil ?_
      intro w3 hw3
      go_wp2
      go_ret
      exact ⟨ret_bool (by simp), HBel.out _ hw3⟩
def fitsB (s : St) : Bool := if standS s = 0 then untB s else if standS s = 1 then unshB s.lines && (s.refunded == 0 && !paidB s) else if standS s = 3 then paidB s && !wholeB s.lines else if standS s = 4 then paidB s && wholeB s.lines else unshB s.lines
set_option maxRecDepth 20000 in
set_option maxHeartbeats 4000000 in
theorem fits_any (s : St) (a : Option Addr) (n cap : Nat) (w : World) (hn : s.lines.length = n) (hl : Lns w a s.lines) (hb : linesB s.lines = true) (ht0 : 0 ≤ s.tax) (ht : s.tax ≤ 5000) :
    Calls Tryz.prog 27 #[.agg (stA s (.slice a n cap))] w fun e w' => e = .returned (.bool (fitsB s)) ∧ Below w.heap.size w w' := by
  have hm : n ≤ maxLen := by have := (linesB_facts hb).1; unfold maxLen; omega
  have HS : Hid (StC w w.heap.size s a n cap (w.alloc (.cells (stA s (.slice a n cap)) 25))) := StC.new w s a n cap hl
  have CP : Hid (∀ w2, Lns w2 a s.lines → _) := fun w2 h => paidUp_any s a n cap w2 hn h hb ht0 ht
  have CU : Hid (∀ w2, Lns w2 a s.lines → _) := fun w2 h => unshipped_any s a n cap w2 hn h hm
  have CW : Hid (∀ w2, Lns w2 a s.lines → _) := fun w2 h => whole_any s a n cap w2 hn h hm
  have CT : Hid (∀ w2, _) := fun w2 => untouched_any s a n cap w2 hn
  obtain ⟨k, hk⟩ : ∃ k, standS s = k := ⟨_, rfl⟩
  have HKK : Hid (_) := hk
  obtain ⟨P, hP⟩ : ∃ P, paidB s = P := ⟨_, rfl⟩
  obtain ⟨U, hU⟩ : ∃ U, unshB s.lines = U := ⟨_, rfl⟩
  obtain ⟨W, hW⟩ : ∃ W, wholeB s.lines = W := ⟨_, rfl⟩
  obtain ⟨T, hT⟩ : ∃ T, untB s = T := ⟨_, rfl⟩
  rw [hP] at CP
  rw [hU] at CU
  rw [hW] at CW
  rw [hT] at CT
  have HF : Hid (fitsB s = if k = 0 then T else if k = 1 then U && (s.refunded == 0 && !P) else if k = 3 then P && !W else if k = 4 then P && W else U) := by show _ = _; unfold fitsB; rw [hk, hP, hU, hW, hT]
  clear hn hl hb hm hk hP hU hW hT
  rw [HF.out]
  by_cases k0 : k = 0
  · subst k0
    rw [if_pos rfl]
    go_enter Tryz.func27, Tryz.ntmps27
    go_wp2_with (first
      | ((with_reducible refine guard_load 25 ?_); refine wpList_load_st rfl _ rfl HS.out.1 rfl ?_)
      | ((with_reducible refine guard_loadg 25 ?_); refine wpList_load_stg rfl _ rfl HS.out.1 rfl ?_)
      | (go_at_call 71; refine (stands_any s a n cap _).mono ?_; rw [HKK.out]; rintro _ w8 ⟨rfl, hb8⟩; have HQ : Hid (StC w w.heap.size s a n cap w8) := StC.keep HS.out hb8; clear HS hb8; have HS := HQ; clear HQ; have c7 : World.cell? _ ⟨w.heap.size, 7, none⟩ = some (.int .i64 s.refunded) := HS.out.1.cell 7 _ rfl)
      | (go_at_call 72; refine (CT.out _).mono ?_; rintro _ w8 ⟨rfl, hb8⟩; have HQ : Hid (StC w w.heap.size s a n cap w8) := StC.keep HS.out hb8; clear HS hb8; have HS := HQ; clear HQ)
      | (go_at_call 60; refine (CU.out _ HS.out.2.1).mono ?_; rintro _ w8 ⟨rfl, hb8⟩; have HQ : Hid (StC w w.heap.size s a n cap w8) := StC.keep HS.out hb8; clear HS hb8; have HS := HQ; clear HQ; clear c7; have c7 : World.cell? _ ⟨w.heap.size, 7, none⟩ = some (.int .i64 s.refunded) := HS.out.1.cell 7 _ rfl)
      | (go_at_call 73; refine (CP.out _ HS.out.2.1).mono ?_; rintro _ w8 ⟨rfl, hb8⟩; have HQ : Hid (StC w w.heap.size s a n cap w8) := StC.keep HS.out hb8; clear HS hb8; have HS := HQ; clear HQ; clear c7)
      | (go_at_call 74; refine (CW.out _ HS.out.2.1).mono ?_; rintro _ w8 ⟨rfl, hb8⟩; have HQ : Hid (StC w w.heap.size s a n cap w8) := StC.keep HS.out hb8; clear HS hb8; have HS := HQ; clear HQ))
    go_ret
    exact ⟨ret_bool (by first | rfl | simp), HS.out.2.2⟩
  · rw [if_neg k0]
    by_cases k1 : k = 1
    · subst k1
      rw [if_pos rfl]
      cases U <;> cases hr : (s.refunded == 0) <;> (
        go_enter Tryz.func27, Tryz.ntmps27
        go_wp2_with (first
          | ((with_reducible refine guard_load 25 ?_); refine wpList_load_st rfl _ rfl HS.out.1 rfl ?_)
          | ((with_reducible refine guard_loadg 25 ?_); refine wpList_load_stg rfl _ rfl HS.out.1 rfl ?_)
          | (go_at_call 71; refine (stands_any s a n cap _).mono ?_; rw [HKK.out]; rintro _ w8 ⟨rfl, hb8⟩; have HQ : Hid (StC w w.heap.size s a n cap w8) := StC.keep HS.out hb8; clear HS hb8; have HS := HQ; clear HQ; have c7 : World.cell? _ ⟨w.heap.size, 7, none⟩ = some (.int .i64 s.refunded) := HS.out.1.cell 7 _ rfl)
          | (go_at_call 72; refine (CT.out _).mono ?_; rintro _ w8 ⟨rfl, hb8⟩; have HQ : Hid (StC w w.heap.size s a n cap w8) := StC.keep HS.out hb8; clear HS hb8; have HS := HQ; clear HQ)
          | (go_at_call 60; refine (CU.out _ HS.out.2.1).mono ?_; rintro _ w8 ⟨rfl, hb8⟩; have HQ : Hid (StC w w.heap.size s a n cap w8) := StC.keep HS.out hb8; clear HS hb8; have HS := HQ; clear HQ; clear c7; have c7 : World.cell? _ ⟨w.heap.size, 7, none⟩ = some (.int .i64 s.refunded) := HS.out.1.cell 7 _ rfl)
          | (go_at_call 73; refine (CP.out _ HS.out.2.1).mono ?_; rintro _ w8 ⟨rfl, hb8⟩; have HQ : Hid (StC w w.heap.size s a n cap w8) := StC.keep HS.out hb8; clear HS hb8; have HS := HQ; clear HQ; clear c7)
          | (go_at_call 74; refine (CW.out _ HS.out.2.1).mono ?_; rintro _ w8 ⟨rfl, hb8⟩; have HQ : Hid (StC w w.heap.size s a n cap w8) := StC.keep HS.out hb8; clear HS hb8; have HS := HQ; clear HQ))
        go_ret
        exact ⟨ret_bool (by first | rfl | simp), HS.out.2.2⟩)
    · rw [if_neg k1]
      by_cases k3 : k = 3
      · subst k3
        rw [if_pos rfl]
        cases P <;> (
          go_enter Tryz.func27, Tryz.ntmps27
          go_wp2_with (first
            | ((with_reducible refine guard_load 25 ?_); refine wpList_load_st rfl _ rfl HS.out.1 rfl ?_)
            | ((with_reducible refine guard_loadg 25 ?_); refine wpList_load_stg rfl _ rfl HS.out.1 rfl ?_)
            | (go_at_call 71; refine (stands_any s a n cap _).mono ?_; rw [HKK.out]; rintro _ w8 ⟨rfl, hb8⟩; have HQ : Hid (StC w w.heap.size s a n cap w8) := StC.keep HS.out hb8; clear HS hb8; have HS := HQ; clear HQ; have c7 : World.cell? _ ⟨w.heap.size, 7, none⟩ = some (.int .i64 s.refunded) := HS.out.1.cell 7 _ rfl)
            | (go_at_call 72; refine (CT.out _).mono ?_; rintro _ w8 ⟨rfl, hb8⟩; have HQ : Hid (StC w w.heap.size s a n cap w8) := StC.keep HS.out hb8; clear HS hb8; have HS := HQ; clear HQ)
            | (go_at_call 60; refine (CU.out _ HS.out.2.1).mono ?_; rintro _ w8 ⟨rfl, hb8⟩; have HQ : Hid (StC w w.heap.size s a n cap w8) := StC.keep HS.out hb8; clear HS hb8; have HS := HQ; clear HQ; clear c7; have c7 : World.cell? _ ⟨w.heap.size, 7, none⟩ = some (.int .i64 s.refunded) := HS.out.1.cell 7 _ rfl)
            | (go_at_call 73; refine (CP.out _ HS.out.2.1).mono ?_; rintro _ w8 ⟨rfl, hb8⟩; have HQ : Hid (StC w w.heap.size s a n cap w8) := StC.keep HS.out hb8; clear HS hb8; have HS := HQ; clear HQ; clear c7)
            | (go_at_call 74; refine (CW.out _ HS.out.2.1).mono ?_; rintro _ w8 ⟨rfl, hb8⟩; have HQ : Hid (StC w w.heap.size s a n cap w8) := StC.keep HS.out hb8; clear HS hb8; have HS := HQ; clear HQ))
          go_ret
          exact ⟨ret_bool (by first | rfl | simp), HS.out.2.2⟩)
      · rw [if_neg k3]
        by_cases k4 : k = 4
        · subst k4
          rw [if_pos rfl]
          cases P <;> (
            go_enter Tryz.func27, Tryz.ntmps27
            go_wp2_with (first
              | ((with_reducible refine guard_load 25 ?_); refine wpList_load_st rfl _ rfl HS.out.1 rfl ?_)
              | ((with_reducible refine guard_loadg 25 ?_); refine wpList_load_stg rfl _ rfl HS.out.1 rfl ?_)
              | (go_at_call 71; refine (stands_any s a n cap _).mono ?_; rw [HKK.out]; rintro _ w8 ⟨rfl, hb8⟩; have HQ : Hid (StC w w.heap.size s a n cap w8) := StC.keep HS.out hb8; clear HS hb8; have HS := HQ; clear HQ; have c7 : World.cell? _ ⟨w.heap.size, 7, none⟩ = some (.int .i64 s.refunded) := HS.out.1.cell 7 _ rfl)
              | (go_at_call 72; refine (CT.out _).mono ?_; rintro _ w8 ⟨rfl, hb8⟩; have HQ : Hid (StC w w.heap.size s a n cap w8) := StC.keep HS.out hb8; clear HS hb8; have HS := HQ; clear HQ)
              | (go_at_call 60; refine (CU.out _ HS.out.2.1).mono ?_; rintro _ w8 ⟨rfl, hb8⟩; have HQ : Hid (StC w w.heap.size s a n cap w8) := StC.keep HS.out hb8; clear HS hb8; have HS := HQ; clear HQ; clear c7; have c7 : World.cell? _ ⟨w.heap.size, 7, none⟩ = some (.int .i64 s.refunded) := HS.out.1.cell 7 _ rfl)
              | (go_at_call 73; refine (CP.out _ HS.out.2.1).mono ?_; rintro _ w8 ⟨rfl, hb8⟩; have HQ : Hid (StC w w.heap.size s a n cap w8) := StC.keep HS.out hb8; clear HS hb8; have HS := HQ; clear HQ; clear c7)
              | (go_at_call 74; refine (CW.out _ HS.out.2.1).mono ?_; rintro _ w8 ⟨rfl, hb8⟩; have HQ : Hid (StC w w.heap.size s a n cap w8) := StC.keep HS.out hb8; clear HS hb8; have HS := HQ; clear HQ))
            go_ret
            exact ⟨ret_bool (by first | rfl | simp), HS.out.2.2⟩)
        · rw [if_neg k4]
          have b0 : (k == 0) = false := by simpa using k0
          have b1 : (k == 1) = false := by simpa using k1
          have b3 : (k == 3) = false := by simpa using k3
          have b4 : (k == 4) = false := by simpa using k4
          clear k0 k1 k3 k4
          go_enter Tryz.func27, Tryz.ntmps27
          go_wp2_with (first
            | ((with_reducible refine guard_load 25 ?_); refine wpList_load_st rfl _ rfl HS.out.1 rfl ?_)
            | ((with_reducible refine guard_loadg 25 ?_); refine wpList_load_stg rfl _ rfl HS.out.1 rfl ?_)
            | (go_at_call 71; refine (stands_any s a n cap _).mono ?_; rw [HKK.out]; rintro _ w8 ⟨rfl, hb8⟩; have HQ : Hid (StC w w.heap.size s a n cap w8) := StC.keep HS.out hb8; clear HS hb8; have HS := HQ; clear HQ; have c7 : World.cell? _ ⟨w.heap.size, 7, none⟩ = some (.int .i64 s.refunded) := HS.out.1.cell 7 _ rfl)
            | (go_at_call 72; refine (CT.out _).mono ?_; rintro _ w8 ⟨rfl, hb8⟩; have HQ : Hid (StC w w.heap.size s a n cap w8) := StC.keep HS.out hb8; clear HS hb8; have HS := HQ; clear HQ)
            | (go_at_call 60; refine (CU.out _ HS.out.2.1).mono ?_; rintro _ w8 ⟨rfl, hb8⟩; have HQ : Hid (StC w w.heap.size s a n cap w8) := StC.keep HS.out hb8; clear HS hb8; have HS := HQ; clear HQ; clear c7; have c7 : World.cell? _ ⟨w.heap.size, 7, none⟩ = some (.int .i64 s.refunded) := HS.out.1.cell 7 _ rfl)
            | (go_at_call 73; refine (CP.out _ HS.out.2.1).mono ?_; rintro _ w8 ⟨rfl, hb8⟩; have HQ : Hid (StC w w.heap.size s a n cap w8) := StC.keep HS.out hb8; clear HS hb8; have HS := HQ; clear HQ; clear c7)
            | (go_at_call 74; refine (CW.out _ HS.out.2.1).mono ?_; rintro _ w8 ⟨rfl, hb8⟩; have HQ : Hid (StC w w.heap.size s a n cap w8) := StC.keep HS.out hb8; clear HS hb8; have HS := HQ; clear HQ))
          go_ret
          exact ⟨ret_bool (by first | rfl | simp), HS.out.2.2⟩
/-- whether a state is valid -/
def vldB (s : St) : Bool := bndS s && (linesB s.lines && (priorB s && (wit 0 s.paid (dueS s) && (wit 0 s.refunded s.paid && fitsB s))))
set_option maxRecDepth 20000 in
set_option maxHeartbeats 8000000 in
theorem valid_st (s : St) (a : Option Addr) (n cap : Nat) (w : World) (hn : s.lines.length = n) (hl : Lns w a s.lines) (hm : n ≤ maxLen) :
    Calls Tryz.prog 12 #[.agg (stA s (.slice a n cap))] w fun e w' => e = .returned (.bool (vldB s)) ∧ Below w.heap.size w w' := by
  have HE := (StC.new w s a n cap hl).drew
  obtain ⟨E, hE⟩ : ∃ E, StC w w.heap.size s a n cap = E := ⟨_, rfl⟩
  have R : Hid (∀ w2, E w2 → w2.cell? ⟨w.heap.size, 6, none⟩ = some (.int .i64 s.paid) ∧ w2.cell? ⟨w.heap.size, 7, none⟩ = some (.int .i64 s.refunded) ∧ w2.cell? ⟨w.heap.size, 5, none⟩ = some (.slice a n cap)) := fun w2 h => by rw [← hE] at h; exact ⟨h.1.cell 6 _ rfl, h.1.cell 7 _ rfl, h.1.cell 5 _ rfl⟩
  have RS : Hid (∀ w2, E w2 → StAt w2 w.heap.size s (.slice a n cap)) := fun w2 h => by rw [← hE] at h; exact h.1
  have HBel : Hid (∀ w2, E w2 → Below w.heap.size w w2) := fun w2 h => by rw [← hE] at h; exact h.2.2
  have HLn : Hid (∀ w2, E w2 → Lns w2 a s.lines) := fun w2 h => by rw [← hE] at h; exact h.2.1
  have HK : Hid (∀ w1 w2, E w1 → Below w1.heap.size w1 w2 → E w2) := fun w1 w2 h h2 => by rw [← hE] at h ⊢; exact h.keep h2
  have C1 : Hid (∀ w2, E w2 → Calls Tryz.prog 23 #[.agg (stA s (.slice a n cap))] w2 fun e w' => e = .returned (.bool (bndS s)) ∧ E w') := fun w2 h => (bounded_any s a n cap w2).mono fun e w' ⟨h1, h2⟩ => ⟨h1, HK.out _ _ h h2⟩
  have C2 : Hid (∀ w2, E w2 → Calls Tryz.prog 24 #[.slice a n cap] w2 fun e w' => e = .returned (.bool (linesB s.lines)) ∧ E w') := fun w2 h => (rightLines_any s.lines a n cap w2 hn (HLn.out w2 h) hm).mono fun e w' ⟨h1, h2⟩ => ⟨h1, HK.out _ _ h h2⟩
  have C3 : Hid (∀ w2, E w2 → Calls Tryz.prog 25 #[.agg (stA s (.slice a n cap))] w2 fun e w' => e = .returned (.bool (priorB s)) ∧ E w') := fun w2 h => (prior_any s a n cap w2).mono fun e w' ⟨h1, h2⟩ => ⟨h1, HK.out _ _ h h2⟩
  have C4 : Hid (bndS s = true → linesB s.lines = true → ∀ w2, E w2 → Calls Tryz.prog 19 #[.agg (stA s (.slice a n cap))] w2 fun e w' => e = .returned (.int .i64 (dueS s)) ∧ E w') := fun hb1 hb2 w2 h => by
    have ht : 0 ≤ s.tax ∧ s.tax ≤ 5000 := by simp only [bndS, Bool.and_eq_true, wit_true] at hb1; omega
    exact (due_any s a n cap w2 hn (HLn.out w2 h) hb2 ht.1 ht.2).mono fun e w' ⟨h1, h2⟩ => ⟨h1, HK.out _ _ h h2⟩
  have C5 : Hid (∀ x y z w2, E w2 → Calls Tryz.prog 26 #[.int .i64 x, .int .i64 y, .int .i64 z] w2 fun e w' => e = .returned (.bool (wit x y z)) ∧ E w') := fun x y z w2 h => (owithin_any x y z w2).mono fun e w' ⟨h1, h2⟩ => ⟨h1, h2 ▸ h⟩
  have C6 : Hid (bndS s = true → linesB s.lines = true → ∀ w2, E w2 → Calls Tryz.prog 27 #[.agg (stA s (.slice a n cap))] w2 fun e w' => e = .returned (.bool (fitsB s)) ∧ E w') := fun hb1 hb2 w2 h => by
    have ht : 0 ≤ s.tax ∧ s.tax ≤ 5000 := by simp only [bndS, Bool.and_eq_true, wit_true] at hb1; omega
    exact (fits_any s a n cap w2 hn (HLn.out w2 h) hb2 ht.1 ht.2).mono fun e w' ⟨h1, h2⟩ => ⟨h1, HK.out _ _ h h2⟩
  obtain ⟨B, hB⟩ : ∃ B, bndS s = B := ⟨_, rfl⟩
  obtain ⟨L, hL⟩ : ∃ L, linesB s.lines = L := ⟨_, rfl⟩
  obtain ⟨P, hP⟩ : ∃ P, priorB s = P := ⟨_, rfl⟩
  obtain ⟨D, hD⟩ : ∃ D, dueS s = D := ⟨_, rfl⟩
  obtain ⟨F, hF⟩ : ∃ F, fitsB s = F := ⟨_, rfl⟩
  have HV : Hid (vldB s = (B && (L && (P && (wit 0 s.paid D && (wit 0 s.refunded s.paid && F)))))) := by show _ = _; unfold vldB; rw [hB, hL, hP, hD, hF]
  rw [hB] at C1
  rw [hL] at C2
  rw [hP] at C3
  rw [hB, hL, hD] at C4
  rw [hB, hL, hF] at C6
  rw [HV.out]
  rw [hE] at HE
  have HEE : Hid (E (World.drew _)) := HE
  clear hn hl hm hB hL hP hD hF hE HE
  go_enter Tryz.func12, Tryz.ntmps12
  go_wp2
  refine wp_region_quiet (C := E) (by kernel_rfl) (by kernel_rfl) HEE.out ?_
  simp only [List.toList_toArray]
  repeat (any_goals (first
    | go_big_quiet_skip
    | (go_big_quiet_want
       first
       | (refine quiet_val (v := .agg (stA s (.slice a n cap))) (fun w2 hw2 => exec_load_st (.tmp 1) rfl rfl (RS.out w2 hw2)) ?_
          go_big_quiet_on
          simp only [Act.put, List.setIfInBounds_toArray, List.set_cons_zero, List.set_cons_succ])
       | (refine quiet_val (v := ?_) (fun w2 hw2 => ?_) ?_
          rotate_left
          · (first | (go_simp; with_reducible rfl) | (obtain ⟨q1, q2, q3⟩ := R.out w2 hw2; go_simp; with_reducible rfl))
          go_big_quiet_on
          simp only [Act.put, List.setIfInBounds_toArray, List.set_cons_zero, List.set_cons_succ])
       | (refine quiet_call (v := ?_) (f := ?_) (args := ?_) (fun w2 hw2 => ?_) (fun w2 hw2 => ?_) ?_
          rotate_left 3
          · (go_simp; refine ⟨?_, ?_⟩ <;> with_reducible rfl)
          first
          | (· (go_at_call 23; exact C1.out _ hw2)
             (go_big_quiet_on; simp only [Act.put, List.setIfInBounds_toArray, List.set_cons_zero, List.set_cons_succ]; cases B))
          | (· (go_at_call 24; exact C2.out _ hw2)
             (go_big_quiet_on; simp only [Act.put, List.setIfInBounds_toArray, List.set_cons_zero, List.set_cons_succ]; cases L))
          | (· (go_at_call 25; exact C3.out _ hw2)
             (go_big_quiet_on; simp only [Act.put, List.setIfInBounds_toArray, List.set_cons_zero, List.set_cons_succ]; cases P))
          | (· (go_at_call 19; exact C4.out rfl rfl _ hw2)
             (go_big_quiet_on; simp only [Act.put, List.setIfInBounds_toArray, List.set_cons_zero, List.set_cons_succ]))
          | (· (go_at_call_of 26 (D); exact C5.out 0 s.paid D _ hw2)
             (go_big_quiet_on; simp only [Act.put, List.setIfInBounds_toArray, List.set_cons_zero, List.set_cons_succ]; cases h5 : wit 0 s.paid D))
          | (· (go_at_call 26; exact C5.out 0 s.refunded s.paid _ hw2)
             (go_big_quiet_on; simp only [Act.put, List.setIfInBounds_toArray, List.set_cons_zero, List.set_cons_succ]; cases h6 : wit 0 s.refunded s.paid))
          | (· (go_at_call 27; exact C6.out rfl rfl _ hw2)
             (go_big_quiet_on; simp only [Act.put, List.setIfInBounds_toArray, List.set_cons_zero, List.set_cons_succ]))))))
  all_goals
    refine wpQuiet_nil ?_
    intro w3 hw3
    go_wp2
    go_ret
    exact ⟨ret_bool (by simp only [*, Bool.true_and, Bool.false_and]), HBel.out _ hw3⟩
end Go.Proofs.YtblfmfanfpohbaaGreat
