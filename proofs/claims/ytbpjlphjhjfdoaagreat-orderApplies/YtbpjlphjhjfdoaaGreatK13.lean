/- Own texts, joined: Ov1, Ov2, Ov3. -/
import Derived.Test.YtbpjlphjhjfdoaaGreatK10
import Derived.Test.YtbpjlphjhjfdoaaGreatK12
namespace Go.Proofs.YtbpjlphjhjfdoaaGreat
open Go.ChangeShapes Go.WideShapes Go.ChangeAt Go.RowKit
set_option linter.unusedVariables false
set_option maxRecDepth 20000 in
theorem owithin_any (a x b : Int) (w : World) : Calls Tryz.prog 27 #[.int .i64 a, .int .i64 x, .int .i64 b] w fun e w' => e = .returned (.bool (wit a x b)) ∧ w = w' := by
  by_cases h1 : a ≤ x
  · by_cases h2 : x ≤ b
    · have e1 : wit a x b = true := by unfold wit; simp [h1, h2]
      rw [e1]
      go_enter Tryz.func27, Tryz.ntmps27
      go_wp2
      go_ret
      exact ⟨rfl, rfl⟩
    · have e1 : wit a x b = false := by unfold wit; simp [h1, h2]
      rw [e1]
      go_enter Tryz.func27, Tryz.ntmps27
      go_wp2
      go_ret
      exact ⟨rfl, rfl⟩
  · have e1 : wit a x b = false := by unfold wit; simp [h1]
    rw [e1]
    go_enter Tryz.func27, Tryz.ntmps27
    go_wp2
    go_ret
    exact ⟨rfl, rfl⟩
theorem wit_true {a x b : Int} : wit a x b = true ↔ a ≤ x ∧ x ≤ b := by unfold wit; simp
def lnB (last : Int) (l : Ln) : Bool := wit (last + 1) l.item 65535 && (wit 0 l.price 100000000 && (wit 1 l.qty 100000 && wit 0 l.shipped l.qty))
def linesFrom : Int → List Ln → Bool
  | _, [] => true
  | last, l :: r => lnB last l && linesFrom l.item r
def linesB (L : List Ln) : Bool := decide (L.length ≤ 16) && linesFrom (-1) L
def net : List Ln → Int
  | [] => 0
  | l :: r => l.qty * l.price + net r
def dueS (s : St) : Int := net s.lines + net s.lines * s.tax / 10000
theorem net_append : ∀ (L M : List Ln), net (L ++ M) = net L + net M
  | [], M => by simp [net]
  | p :: r, M => by simp only [List.cons_append, net, net_append r M]; omega
theorem lnB_facts {last : Int} {l : Ln} (h : lnB last l = true) : last < l.item ∧ l.item ≤ 65535 ∧ 0 ≤ l.price ∧ l.price ≤ 100000000 ∧ 1 ≤ l.qty ∧ l.qty ≤ 100000 ∧ 0 ≤ l.shipped ∧ l.shipped ≤ l.qty := by
  simp only [lnB, Bool.and_eq_true, wit_true] at h
  omega
theorem linesFrom_get : ∀ {L : List Ln} {last : Int} {k : Nat} {p : Ln}, linesFrom last L = true → L[k]? = some p → ∃ m, lnB m p = true
  | l :: r, last, 0, p, h, hp => by
    simp only [linesFrom, Bool.and_eq_true] at h
    simp at hp; subst hp
    exact ⟨last, h.1⟩
  | l :: r, last, k + 1, p, h, hp => by
    simp only [linesFrom, Bool.and_eq_true] at h
    exact linesFrom_get h.2 (by simpa using hp)
  | [], last, k, p, h, hp => by simp at hp
theorem linesB_facts {L : List Ln} (h : linesB L = true) : L.length ≤ 16 ∧ ∀ (k : Nat) (p : Ln), L[k]? = some p → 0 ≤ p.item ∧ p.item ≤ 65535 ∧ 0 ≤ p.price ∧ p.price ≤ 100000000 ∧ 1 ≤ p.qty ∧ p.qty ≤ 100000 ∧ 0 ≤ p.shipped ∧ p.shipped ≤ p.qty := by
  simp only [linesB, Bool.and_eq_true, decide_eq_true_eq] at h
  refine ⟨h.1, ?_⟩
  have key : ∀ (L : List Ln) (last : Int), -1 ≤ last → linesFrom last L = true → ∀ (k : Nat) (p : Ln), L[k]? = some p → 0 ≤ p.item ∧ p.item ≤ 65535 ∧ 0 ≤ p.price ∧ p.price ≤ 100000000 ∧ 1 ≤ p.qty ∧ p.qty ≤ 100000 ∧ 0 ≤ p.shipped ∧ p.shipped ≤ p.qty := by
    intro L
    induction L with
    | nil => intro last _ _ k p hp; simp at hp
    | cons l r ih =>
      intro last h0 hl k p hp
      simp only [linesFrom, Bool.and_eq_true] at hl
      have f := lnB_facts hl.1
      cases k with
      | zero => simp at hp; subst hp; omega
      | succ k => exact ih l.item (by omega) hl.2 k p (by simpa using hp)
  exact key L (-1) (by omega) h.2
theorem worth_bound {q p : Int} (h1 : 0 ≤ q) (h2 : q ≤ 100000) (h3 : 0 ≤ p) (h4 : p ≤ 100000000) : 0 ≤ q * p ∧ q * p ≤ 10000000000000 :=
  ⟨Int.mul_nonneg h1 h3, Int.le_trans (Int.mul_le_mul h2 h4 h3 (by omega)) (by decide)⟩
theorem net_take {L : List Ln} (h : linesB L = true) : ∀ k, k ≤ L.length → 0 ≤ net (L.take k) ∧ net (L.take k) ≤ 10000000000000 * (k : Int) := by
  obtain ⟨h16, hall⟩ := linesB_facts h
  intro k
  induction k with
  | zero => intro _; simp [net]
  | succ k ih =>
    intro hk
    obtain ⟨p, hp⟩ := ln_get (L := L) (k := k) (by omega)
    have f := hall k p hp
    obtain ⟨i1, i2⟩ := ih (by omega)
    obtain ⟨b1, b2⟩ := worth_bound (q := p.qty) (p := p.price) (by omega) (by omega) (by omega) (by omega)
    rw [ln_take L k p hp, net_append]
    simp only [net]
    omega
theorem net_bound {L : List Ln} (h : linesB L = true) : 0 ≤ net L ∧ net L ≤ 160000000000000 := by
  have h1 := net_take h L.length (Nat.le_refl _)
  rw [List.take_length] at h1
  have h2 := (linesB_facts h).1
  omega
theorem tax_bound {n t : Int} (h1 : 0 ≤ n) (h2 : n ≤ 160000000000000) (h3 : 0 ≤ t) (h4 : t ≤ 5000) : 0 ≤ n * t ∧ n * t ≤ 800000000000000000 :=
  ⟨Int.mul_nonneg h1 h3, Int.le_trans (Int.mul_le_mul h2 h4 h3 (by omega)) (by decide)⟩
theorem md_tax {n t : Int} (h1 : 0 ≤ n) (h2 : n ≤ 160000000000000) (h3 : 0 ≤ t) (h4 : t ≤ 5000) : mdV n t 10000 = n * t / 10000 ∧ mdB n t 10000 = true := by
  obtain ⟨b1, b2⟩ := tax_bound h1 h2 h3 h4
  have e1 : mdq n t 10000 = n * t / 10000 := by
    unfold mdq
    rw [decide_eq_false (by omega : ¬ n < 0), decide_eq_false (by omega : ¬ t < 0), decide_eq_false (by decide : ¬ (10000 : Int) < 0)]
    show ((n.natAbs * t.natAbs / 10000 : Nat) : Int) = n * t / 10000
    rw [← Int.natAbs_mul]
    have : ((n * t).natAbs : Int) = n * t := by omega
    rw [Int.natCast_ediv, this]; rfl
  have e2 : inI (n * t / 10000) := by
    show -9223372036854775808 ≤ _ ∧ _ ≤ 9223372036854775807
    omega
  unfold mdV mdB
  rw [if_neg (by decide), if_neg (by decide), e1]
  exact fit_in _ e2
theorem due_bound {s : St} (h : linesB s.lines = true) (h3 : 0 ≤ s.tax) (h4 : s.tax ≤ 5000) : 0 ≤ dueS s ∧ dueS s ≤ 240000000000000 := by
  obtain ⟨n1, n2⟩ := net_bound h
  obtain ⟨b1, b2⟩ := tax_bound n1 n2 h3 h4
  have h5 : net s.lines * s.tax ≤ 5000 * net s.lines := by
    have := Int.mul_le_mul_of_nonneg_left h4 n1
    omega
  unfold dueS
  omega
end Go.Proofs.YtbpjlphjhjfdoaaGreat
namespace Go.Proofs.YtbpjlphjhjfdoaaGreat
open Go.ChangeShapes Go.WideShapes Go.ChangeAt Go.RowKit
set_option linter.unusedVariables false
theorem wrap64_in {x : Int} (h1 : -9223372036854775808 ≤ x) (h2 : x ≤ 9223372036854775807) : wrap64 x = x := by unfold wrap64; omega
def lnA (p : Ln) : Array Value := #[.int .i64 p.item, .int .i64 p.price, .int .i64 p.qty, .int .i64 p.shipped]
set_option maxRecDepth 20000 in
theorem worth_any (i p q s W : Int) (w : World) (hW : wrap64 (q * p) = W) : Calls Tryz.prog 57 #[.agg #[.int .i64 i, .int .i64 p, .int .i64 q, .int .i64 s]] w fun e w' => e = .returned (.int .i64 W) ∧ Below w.heap.size w w' := by
  go_enter Tryz.func57, Tryz.ntmps57
  go_wp2
  go_ret
  exact ⟨ret_int hW, (Below.refl _ _).alloc (Nat.le_refl _) _⟩
set_option maxRecDepth 20000 in
set_option maxHeartbeats 2000000 in
theorem due_any (s : St) (a : Option Addr) (n cap : Nat) (w : World) (hn : s.lines.length = n) (hl : Lns w a s.lines) (hb : linesB s.lines = true) (ht0 : 0 ≤ s.tax) (ht : s.tax ≤ 5000) :
    Calls Tryz.prog 23 #[.agg (stA s (.slice a n cap))] w fun e w' => e = .returned (.int .i64 (dueS s)) ∧ Below w.heap.size w w' := by
  have HN : Hid (s.lines.length = n) := hn
  have HB : Hid (linesB s.lines = true) := hb
  have hn16 : n ≤ 16 := by rw [← hn]; exact (linesB_facts hb).1
  have HS := StC.new w s a n cap hl
  have HSH : Hid (StC w w.heap.size s a n cap (w.alloc (.cells (stA s (.slice a n cap)) 25))) := HS
  clear hn hb hl HS
  unfold stA
  go_enter Tryz.func23, Tryz.ntmps23
  go_wp2
  go_loopw [3, 11] (fun vs vi wr => ∃ (k : Nat) (S : Int), k ≤ n ∧ vs = .int .i64 S ∧ vi = .int .i64 k ∧ Hid (S = net (s.lines.take k) ∧ StC w w.heap.size s a n cap wr)) (fun _ vi _ => n - (intOf vi).toNat)
  case atStart => exact ⟨0, 0, Nat.zero_le _, rfl, rfl, by simp [net], HSH.out⟩
  case round =>
    obtain ⟨k, S, hk, rfl, rfl, HI⟩ := hrel
    by_cases hkn : k < n
    · obtain ⟨p, hp⟩ := ln_get (L := s.lines) (k := k) (by rw [HN.out]; exact hkn)
      obtain ⟨b, off, rfl, hlt, q0, q1, q2, q3⟩ := HI.out.2.2.1.cells k p hp
      have f := (linesB_facts HB.out).2 k p hp
      obtain ⟨b1, b2⟩ := worth_bound (q := p.qty) (p := p.price) (by omega) (by omega) (by omega) (by omega)
      have t1 := net_take HB.out k (by rw [HN.out]; omega)
      have t2 := net_take HB.out (k + 1) (by rw [HN.out]; omega)
      have e1 : net (s.lines.take (k + 1)) = S + p.qty * p.price := by rw [ln_take _ _ _ hp, net_append, HI.out.1]; simp [net]
      obtain ⟨W, hW⟩ : ∃ W, p.qty * p.price = W := ⟨_, rfl⟩
      rw [hW] at b1 b2 e1
      have HWW : Hid (wrap64 (p.qty * p.price) = W) := by show _ = _; rw [hW]; exact wrap64_in (by omega) (by omega)
      have hS0 : 0 ≤ S := by rw [HI.out.1]; exact t1.1
      have hS1 : S ≤ 160000000000000 := by rw [HI.out.1]; omega
      have HE : Hid (S + W = net (s.lines.take (k + 1))) := e1.symm
      clear f t1 t2 e1 hW hp
      go_wp2_with (first
        | (go_at_call 57; refine (worth_any _ _ _ _ W _ HWW.out).mono ?_; rintro _ w2 ⟨rfl, hb2⟩; have HC2 : Hid (StC w w.heap.size s (some ⟨b, off, none⟩) n cap w2) := (HI.out.2.alloc _).keep hb2; clear hb2))
      go_roundw
      case rel => exact ⟨k + 1, S + W, by omega, by go_num, by go_num, HE.out, HC2.out⟩
      case measure => simp [intOf]; omega
    · obtain rfl : k = n := by omega
      have t1 := net_bound HB.out
      have e1 : S = net s.lines := by rw [HI.out.1, List.take_of_length_le (by rw [HN.out]; omega)]
      have hS0 : 0 ≤ S := by rw [e1]; exact t1.1
      have hS1 : S ≤ 160000000000000 := by rw [e1]; exact t1.2
      obtain ⟨m1, m2⟩ := md_tax hS0 hS1 ht0 ht
      obtain ⟨b1, b2⟩ := tax_bound hS0 hS1 ht0 ht
      obtain ⟨X, hX⟩ : ∃ X, S * s.tax / 10000 = X := ⟨_, rfl⟩
      have hX0 : 0 ≤ X := by omega
      have hX1 : X ≤ 80000000000000 := by omega
      have HM : Hid (mdV S s.tax 10000 = X ∧ mdB S s.tax 10000 = true) := ⟨m1.trans hX, m2⟩
      have HD : Hid (S + X = dueS s) := by show _ = _; unfold dueS; rw [← e1, hX]
      have c4 := HI.out.2.1.cell 4 _ rfl
      clear m1 m2 b1 b2 hX e1 t1
      go_wp2_with (first
        | (go_at_call 58; refine (muldiv_any S s.tax 10000 _ (by omega) (by omega) (by omega) (by omega) (by omega) (by omega)).mono ?_; rw [HM.out.1, HM.out.2]; rintro _ w2 ⟨rfl, hb2⟩; have HC2 : Hid (StC w w.heap.size s a k cap w2) := HI.out.2.keep hb2; clear hb2))
      go_ret
      exact ⟨ret_int (by rw [← HD.out]), HC2.out.2.2⟩
def unshB (L : List Ln) : Bool := L.all fun l => decide (l.shipped ≤ 0)
def wholeB (L : List Ln) : Bool := L.all fun l => decide (l.qty ≤ l.shipped)
theorem all_drop {f : Ln → Bool} {L : List Ln} {k : Nat} {p : Ln} (hp : L[k]? = some p) : (L.drop k).all f = (f p && (L.drop (k + 1)).all f) := by
  rw [ln_drop _ _ _ hp]; rfl
set_option maxRecDepth 20000 in
set_option maxHeartbeats 2000000 in
theorem unshipped_any (s : St) (a : Option Addr) (n cap : Nat) (w : World) (hn : s.lines.length = n) (hl : Lns w a s.lines) (hm : n ≤ maxLen) :
    Calls Tryz.prog 47 #[.agg (stA s (.slice a n cap))] w fun e w' => e = .returned (.bool (unshB s.lines)) ∧ Below w.heap.size w w' := by
  have HN : Hid (s.lines.length = n) := hn
  unfold maxLen at hm
  have HS := StC.new w s a n cap hl
  have HSH : Hid (StC w w.heap.size s a n cap (w.alloc (.cells (stA s (.slice a n cap)) 25))) := HS
  clear hn hl HS
  unfold stA
  go_enter Tryz.func47, Tryz.ntmps47
  go_wp2
  go_loopw [8] (fun vi wr => ∃ (k : Nat), k ≤ n ∧ vi = .int .i64 k ∧ Hid (unshB s.lines = (s.lines.drop k).all (fun l => decide (l.shipped ≤ 0)) ∧ StC w w.heap.size s a n cap wr)) (fun vi _ => n - (intOf vi).toNat)
  case atStart => exact ⟨0, Nat.zero_le _, rfl, rfl, HSH.out⟩
  case round =>
    obtain ⟨k, hk, rfl, HI⟩ := hrel
    by_cases hkn : k < n
    · obtain ⟨p, hp⟩ := ln_get (L := s.lines) (k := k) (by rw [HN.out]; exact hkn)
      obtain ⟨b, off, rfl, hlt, q0, q1, q2, q3⟩ := HI.out.2.2.1.cells k p hp
      have HE : Hid (unshB s.lines = (decide (p.shipped ≤ 0) && (s.lines.drop (k + 1)).all (fun l => decide (l.shipped ≤ 0)))) := HI.out.1.trans (all_drop hp)
      clear hp
      go_wp2
      all_goals first
        | (go_ret; exact ⟨ret_bool (by rw [HE.out, decide_eq_false (by omega)]; rfl), (HI.out.2.alloc _).2.2⟩)
        | (refine ⟨⟨k + 1, by omega, by go_num, by rw [HE.out, decide_eq_true (by omega)]; rfl, HI.out.2.alloc _⟩, by simp [intOf]; omega⟩)
    · have HT : Hid (unshB s.lines = true) := by show _ = _; rw [HI.out.1, List.drop_eq_nil_of_le (by rw [HN.out]; omega)]; rfl
      go_wp2
      go_ret
      exact ⟨ret_bool (by rw [HT.out]), HI.out.2.2.2⟩
set_option maxRecDepth 20000 in
set_option maxHeartbeats 2000000 in
theorem whole_any (s : St) (a : Option Addr) (n cap : Nat) (w : World) (hn : s.lines.length = n) (hl : Lns w a s.lines) (hm : n ≤ maxLen) :
    Calls Tryz.prog 63 #[.agg (stA s (.slice a n cap))] w fun e w' => e = .returned (.bool (wholeB s.lines)) ∧ Below w.heap.size w w' := by
  have HN : Hid (s.lines.length = n) := hn
  unfold maxLen at hm
  have HS := StC.new w s a n cap hl
  have HSH : Hid (StC w w.heap.size s a n cap (w.alloc (.cells (stA s (.slice a n cap)) 25))) := HS
  clear hn hl HS
  unfold stA
  go_enter Tryz.func63, Tryz.ntmps63
  go_wp2
  go_loopw [8] (fun vi wr => ∃ (k : Nat), k ≤ n ∧ vi = .int .i64 k ∧ Hid (wholeB s.lines = (s.lines.drop k).all (fun l => decide (l.qty ≤ l.shipped)) ∧ StC w w.heap.size s a n cap wr)) (fun vi _ => n - (intOf vi).toNat)
  case atStart => exact ⟨0, Nat.zero_le _, rfl, rfl, HSH.out⟩
  case round =>
    obtain ⟨k, hk, rfl, HI⟩ := hrel
    by_cases hkn : k < n
    · obtain ⟨p, hp⟩ := ln_get (L := s.lines) (k := k) (by rw [HN.out]; exact hkn)
      obtain ⟨b, off, rfl, hlt, q0, q1, q2, q3⟩ := HI.out.2.2.1.cells k p hp
      have HE : Hid (wholeB s.lines = (decide (p.qty ≤ p.shipped) && (s.lines.drop (k + 1)).all (fun l => decide (l.qty ≤ l.shipped)))) := HI.out.1.trans (all_drop hp)
      clear hp
      go_wp2
      all_goals first
        | (go_ret; exact ⟨ret_bool (by rw [HE.out, decide_eq_false (by omega)]; rfl), (HI.out.2.alloc _).2.2⟩)
        | (refine ⟨⟨k + 1, by omega, by go_num, by rw [HE.out, decide_eq_true (by omega)]; rfl, HI.out.2.alloc _⟩, by simp [intOf]; omega⟩)
    · have HT : Hid (wholeB s.lines = true) := by show _ = _; rw [HI.out.1, List.drop_eq_nil_of_le (by rw [HN.out]; omega)]; rfl
      go_wp2
      go_ret
      exact ⟨ret_bool (by rw [HT.out]), HI.out.2.2.2⟩
end Go.Proofs.YtbpjlphjhjfdoaaGreat
namespace Go.Proofs.YtbpjlphjhjfdoaaGreat
open Go.ChangeShapes Go.WideShapes Go.ChangeAt Go.RowKit
set_option linter.unusedVariables false
def whoE (who : ByteArray) : Ev := ⟨1, 1, 0, 0, 0, 0, 0, who, 0, ⟨#[]⟩⟩
def whoB (who : ByteArray) : Bool := chk 5 (whoE who) == 0
set_option maxRecDepth 20000 in
set_option maxHeartbeats 1000000 in
theorem rightWho_any (who : ByteArray) (w : World) : Calls Tryz.prog 59 #[.string who] w fun e w' => e = .returned (.bool (whoB who)) ∧ Below w.heap.size w w' := by
  obtain ⟨c, hc⟩ : ∃ c, chk 5 (whoE who) = c := ⟨_, rfl⟩
  have HC : Hid (_) := hc
  have HW : Hid (whoB who = (c == 0)) := by show _ = _; unfold whoB; rw [hc]
  have HA : Hid (EvAt (w.alloc (.cells (evA zeroE) 28)) w.heap.size zeroE) := evAt_new w zeroE
  have HAB : Hid (Below w.heap.size w (w.alloc (.cells (evA zeroE) 28))) := (Below.refl _ _).alloc (Nat.le_refl _) _
  clear hc
  rw [HW.out]
  go_enter Tryz.func59, Tryz.ntmps59
  go_wp2_with (first
    | ((with_reducible refine guard_store 28 ?_); refine wpList_store_ev (e := zeroE) (e2 := whoE who) rfl _ _ rfl HA.out rfl rfl ?_; intro x1 z1 z2 z3 z4; have HE1 : Hid (EvAt x1 w.heap.size (whoE who)) := z1; have HB1 : Hid (Below w.heap.size w x1) := z2 _ _ HAB.out (Nat.le_refl _); clear z1 z2 z3 z4)
    | ((with_reducible refine guard_load 28 ?_); refine wpList_load_ev rfl _ rfl HE1.out rfl ?_)
    | (go_at_call 82; refine (check_ev 5 (whoE who) _).mono ?_; rw [HC.out]; rintro _ x2 ⟨rfl, hb2⟩; have HB2 : Hid (Below w.heap.size w x2) := below_next HB1.out hb2; clear hb2))
  go_ret
  exact ⟨rfl, HB2.out⟩
def standS (s : St) : Int := if s.status = 2 then s.prior else s.status
set_option maxRecDepth 20000 in
theorem stands_any (s : St) (a : Option Addr) (n cap : Nat) (w : World) : Calls Tryz.prog 60 #[.agg (stA s (.slice a n cap))] w fun e w' => e = .returned (.int .i64 (standS s)) ∧ Below w.heap.size w w' := by
  by_cases h : s.status = 2
  · have HS : Hid (standS s = s.prior) := if_pos h
    have hb : (s.status == 2) = true := by simpa using h
    rw [HS.out]
    clear h
    unfold stA
    go_enter Tryz.func60, Tryz.ntmps60
    go_wp2
    go_ret
    exact ⟨rfl, (Below.refl _ _).alloc (Nat.le_refl _) _⟩
  · have HS : Hid (standS s = s.status) := if_neg h
    have hb : (s.status == 2) = false := by simpa using h
    rw [HS.out]
    clear h
    unfold stA
    go_enter Tryz.func60, Tryz.ntmps60
    go_wp2
    go_ret
    exact ⟨rfl, (Below.refl _ _).alloc (Nat.le_refl _) _⟩
def priorB (s : St) : Bool := if s.status = 2 then (s.prior == 1 || s.prior == 3) else s.prior == 0
set_option maxRecDepth 20000 in
theorem prior_any (s : St) (a : Option Addr) (n cap : Nat) (w : World) : Calls Tryz.prog 26 #[.agg (stA s (.slice a n cap))] w fun e w' => e = .returned (.bool (priorB s)) ∧ Below w.heap.size w w' := by
  by_cases h : s.status = 2
  · have HS : Hid (priorB s = (s.prior == 1 || s.prior == 3)) := if_pos h
    have hb : (s.status == 2) = true := by simpa using h
    rw [HS.out]
    clear h
    unfold stA
    cases h1 : s.prior == 1
    · go_enter Tryz.func26, Tryz.ntmps26
      go_wp2
      go_ret
      exact ⟨rfl, (Below.refl _ _).alloc (Nat.le_refl _) _⟩
    · go_enter Tryz.func26, Tryz.ntmps26
      go_wp2
      go_ret
      exact ⟨rfl, (Below.refl _ _).alloc (Nat.le_refl _) _⟩
  · have HS : Hid (priorB s = (s.prior == 0)) := if_neg h
    have hb : (s.status == 2) = false := by simpa using h
    rw [HS.out]
    clear h
    unfold stA
    go_enter Tryz.func26, Tryz.ntmps26
    go_wp2
    go_ret
    exact ⟨rfl, (Below.refl _ _).alloc (Nat.le_refl _) _⟩
theorem rightLines_step {L : List Ln} {k : Nat} {p : Ln} {last : Int} (hp : L[k]? = some p) : linesFrom last (L.drop k) = (lnB last p && linesFrom p.item (L.drop (k + 1))) := by
  rw [ln_drop _ _ _ hp]; rfl
set_option maxRecDepth 20000 in
set_option maxHeartbeats 4000000 in
theorem rightLines_any (L : List Ln) (a : Option Addr) (n cap : Nat) (w : World) (hn : L.length = n) (hl : Lns w a L) (hm : n ≤ maxLen) :
    Calls Tryz.prog 25 #[.slice a n cap] w fun e w' => e = .returned (.bool (linesB L)) ∧ Below w.heap.size w w' := by
  unfold maxLen at hm
  by_cases h16 : n ≤ 16
  · have HN : Hid (L.length = n) := hn
    have HV : Hid (linesB L = linesFrom (-1) (L.drop 0)) := by show _ = _; unfold linesB; rw [decide_eq_true (by omega)]; rfl
    have HLN : Hid (Lns w a L) := hl
    clear hn hl
    go_enter Tryz.func25, Tryz.ntmps25
    go_wp2
    go_loopw [3, 12] (fun vl vi wr => ∃ (k : Nat) (l : Int), k ≤ n ∧ vl = .int .i64 l ∧ vi = .int .i64 k ∧ -1 ≤ l ∧ l ≤ 65535 ∧ Hid (linesB L = linesFrom l (L.drop k) ∧ Below w.heap.size w wr)) (fun _ vi _ => n - (intOf vi).toNat)
    case atStart => exact ⟨0, -1, Nat.zero_le _, rfl, rfl, by omega, by omega, HV.out, Below.refl _ _⟩
    case round =>
      clear HV
      obtain ⟨k, l, hk, rfl, rfl, hl0, hl1, HI⟩ := hrel
      by_cases hkn : k < n
      · obtain ⟨p, hp⟩ := ln_get (L := L) (k := k) (by rw [HN.out]; exact hkn)
        obtain ⟨b, off, rfl, hlt, q0, q1, q2, q3⟩ := (HLN.out.keep HI.out.2).cells k p hp
        have HE : Hid (linesB L = (lnB l p && linesFrom p.item (L.drop (k + 1)))) := HI.out.1.trans (rightLines_step hp)
        have HB2 : ∀ o, Hid (Below w.heap.size w (wr.alloc o)) := fun o => HI.out.2.alloc HI.out.2.size o
        clear hp
        have hF : lnB l p = (wit (l + 1) p.item 65535 && (wit 0 p.price 100000000 && (wit 1 p.qty 100000 && wit 0 p.shipped p.qty))) := rfl
        have HF : Hid (_) := hF
        clear hF
        go_wp2_with (first
          | (go_at_call 27; refine (owithin_any _ _ _ _).mono ?_; rintro _ _ ⟨rfl, rfl⟩; generalize hq : wit _ _ _ = q; cases q))
        all_goals first
          | (go_ret; exact ⟨ret_bool (by rw [HE.out, HF.out]; simp only [*]; rfl), (HB2 _).out⟩)
          | (have hA : lnB l p = true := (by rw [HF.out]; simp only [*]; rfl)
             have hB := lnB_facts hA
             refine ⟨⟨k + 1, p.item, by omega, by go_num, by go_num, by omega, by omega, by rw [HE.out, hA]; rfl, (HB2 _).out⟩, by simp [intOf]; omega⟩)
      · have HT : Hid (linesB L = true) := by show _ = _; rw [HI.out.1, List.drop_eq_nil_of_le (by rw [HN.out]; omega)]; rfl
        go_wp2
        go_ret
        exact ⟨ret_bool (by rw [HT.out]), HI.out.2⟩
  · have HF : Hid (linesB L = false) := by show _ = _; unfold linesB; rw [decide_eq_false (by omega)]; rfl
    clear hn hl
    go_enter Tryz.func25, Tryz.ntmps25
    go_wp2
    go_ret
    exact ⟨ret_bool (by rw [HF.out]), Below.refl _ _⟩
def bndS (s : St) : Bool := wit 1 s.order 1099511627776 && (wit 0 s.status 5 && (wit 0 s.cur 3 && (wit 0 s.tax 5000 && (wit 0 s.events 1099511627776 && (wit 0 s.refused s.events && (wit 0 s.stamp 1099511627776 && whoB s.who))))))
set_option maxRecDepth 20000 in
set_option maxHeartbeats 4000000 in
theorem bounded_any (s : St) (a : Option Addr) (n cap : Nat) (w : World) : Calls Tryz.prog 24 #[.agg (stA s (.slice a n cap))] w fun e w' => e = .returned (.bool (bndS s)) ∧ Below w.heap.size w w' := by
  have HF : Hid (bndS s = (wit 1 s.order 1099511627776 && (wit 0 s.status 5 && (wit 0 s.cur 3 && (wit 0 s.tax 5000 && (wit 0 s.events 1099511627776 && (wit 0 s.refused s.events && (wit 0 s.stamp 1099511627776 && whoB s.who)))))))) := rfl
  have HB1 : ∀ o, Hid (Below w.heap.size w (w.alloc o)) := fun o => (Below.refl _ _).alloc (Nat.le_refl _) _
  unfold stA
  go_enter Tryz.func24, Tryz.ntmps24
  go_wp2_with (first
    | (go_at_call 27; refine (owithin_any _ _ _ _).mono ?_; rintro _ _ ⟨rfl, rfl⟩; generalize hq : wit _ _ _ = q; cases q)
    | (go_at_call 59; refine (rightWho_any _ _).mono ?_; rintro _ w2 ⟨rfl, hb2⟩; have HB2 : Hid (Below w.heap.size w w2) := below_next (HB1 _).out hb2; clear hb2))
  all_goals first
    | (go_ret; exact ⟨ret_bool (by rw [HF.out]; simp only [*]; rfl), HB2.out⟩)
    | (go_ret; exact ⟨ret_bool (by rw [HF.out]; simp only [*]; rfl), (HB1 _).out⟩)
end Go.Proofs.YtbpjlphjhjfdoaaGreat
