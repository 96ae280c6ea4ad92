/- Own texts, joined: Rmd, Rv1, RTab, RChk4, RChkE, Rv2. -/
import Derived.Test.YtblfmfanfpohbaaGreatOver
import Derived.Test.YtblfmfanfpohbaaGreatG05
import Derived.Test.YtblfmfanfpohbaaGreatG01
import Derived.Deep.QuietTactic
import Derived.BigQuiet
import Derived.Test.YtblfmfanfpohbaaGreatG03
import Derived.WalkSmall
namespace Go.Proofs.YtblfmfanfpohbaaGreat.rmd
open Go.ChangeShapes Go.WideShapes Go.ChangeAt Go.RowKit
theorem sgn_times {s t : Bool} {A B C A' B' : Nat} (h : C = A' * B') (e1 : A = A') (e2 : B = B') : sgn (s != t) C = sgn s A * sgn t B := by
  subst h e1 e2
  cases s <;> cases t <;> simp [sgn, Int.neg_mul, Int.mul_neg]
theorem times_is (v u : Value) (L M : Int) (w : World) (hv : IsL v L) (hu : IsL u M) (hL : L.natAbs < 65536 ^ 8) (hM : M.natAbs < 65536 ^ 8) :
    Calls Tryz.prog 38 #[v, u] w fun e w' => ∃ r, e = .returned r ∧ IsL r (L * M) ∧ Below w.heap.size w w' := by
  obtain ⟨s, x, rfl, hx, rfl⟩ := hv
  obtain ⟨t, y, rfl, hy, rfl⟩ := hu
  rw [sgn_abs] at hL hM
  refine (times_any s t x y w hx hy).mono ?_
  rintro e w' ⟨z, rfl, hz, hV, hb⟩
  refine ⟨_, rfl, ⟨_, z, rfl, hz, ?_⟩, hb⟩
  have e1 := Tm.low hL
  have e2 := Tm.low hM
  exact sgn_times hV e1 e2
theorem small (a : Int) (h : inI a) : a.natAbs < 65536 ^ 8 := by
  have h9 : (2 : Nat) ^ 64 ≤ 65536 ^ 8 := by decide
  unfold inI at h
  have : a.natAbs < 2 ^ 64 := by omega
  exact Nat.lt_of_lt_of_le this h9
/-- the sign of a number that isn't 0 -/
theorem sgn_neg {s : Bool} {n : Nat} (h : 0 < n) : decide (sgn s n < 0) = s := by
  unfold sgn
  cases s <;> simp <;> omega
theorem sgn_nought (s t : Bool) : sgn s 0 = sgn t 0 := by cases s <;> cases t <;> rfl
theorem quo_sgn {s t : Bool} {A B : Nat} (hB : 0 < B) : sgn (s != t) (A / B) = sgn (decide (sgn s A < 0) != decide (sgn t B < 0)) ((sgn s A).natAbs / (sgn t B).natAbs) := by
  rw [sgn_abs, sgn_abs, sgn_neg hB]
  rcases Nat.eq_zero_or_pos A with rfl | hA
  · rw [Nat.zero_div]; exact sgn_nought _ _
  · rw [sgn_neg hA]
theorem over_is (v u : Value) (L M : Int) (w : World) (hv : IsL v L) (hu : IsL u M) (hM0 : M ≠ 0) (hM : M.natAbs < 65536 ^ 8) :
    Calls Tryz.prog 37 #[v, u] w fun e w' => ∃ s q t r, e = .returned (.tuple #[.agg (LA s q), .agg (LA t r)]) ∧ IsL (.agg (LA s q)) (sgn (decide (L < 0) != decide (M < 0)) (L.natAbs / M.natAbs)) ∧ Below w.heap.size w w' := by
  obtain ⟨s, x, rfl, hx, rfl⟩ := hv
  obtain ⟨t, y, rfl, hy, rfl⟩ := hu
  obtain ⟨A, hA⟩ : ∃ A, V x 16 = A := ⟨_, rfl⟩
  obtain ⟨B, hB⟩ : ∃ B, V y 16 = B := ⟨_, rfl⟩
  rw [hB, sgn_abs] at hM
  rw [hB] at hM0
  have hB0 : 0 < B := by
    rcases Nat.eq_zero_or_pos B with h | h
    · exfalso; apply hM0; rw [h]; cases t <;> rfl
    · exact h
  have hB1 : B < 65536 ^ 15 := Nat.lt_of_lt_of_le hM (Nat.pow_le_pow_right (by omega) (by omega))
  refine (over_any s t x y A B w hx hy hA hB hB0 hB1).mono ?_
  rintro e w' ⟨q, r, rfl, hq, hr, hVq, hVr, hb⟩
  refine ⟨_, q, _, r, rfl, ⟨_, q, rfl, hq, ?_⟩, hb⟩
  rw [hA, hB, ← quo_sgn hB0, hVq]
theorem mdq_eq (a b d : Int) : sgn (decide (a * b < 0) != decide (d < 0)) ((a * b).natAbs / d.natAbs) = mdq a b d := by
  unfold mdq
  rw [Int.natAbs_mul]
  rcases Nat.eq_zero_or_pos (a.natAbs * b.natAbs) with h | h
  · rw [h, Nat.zero_div]; exact sgn_nought _ _
  · have : decide (a * b < 0) = (decide (a < 0) != decide (b < 0)) := by
      rw [sgn_mul a b]; exact sgn_neg h
    rw [this]
set_option maxRecDepth 20000 in
set_option maxHeartbeats 2000000 in
theorem rmd_any (a b d : Int) (w : World) (h0 : Hid (inI a)) (h2 : Hid (inI b)) (h4 : Hid (inI d)) :
    Calls Tryz.prog 41 #[.int .i64 a, .int .i64 b, .int .i64 d] w fun e w' => e = .returned (.tuple #[.int .i64 (mdV a b d), .bool (mdB a b d)]) ∧ Below w.heap.size w w' := by
  by_cases hd : d = 0
  · subst hd
    have E3 : Hid (mdV a b 0 = 0 ∧ mdB a b 0 = false) := ⟨rfl, rfl⟩
    go_enter Tryz.func41, Tryz.ntmps41
    go_wp2
    go_ret2
    exact ⟨ret_ib E3.out.1.symm E3.out.2.symm, Below.refl _ _⟩
  · have hdb : (d == 0) = false := by simpa using hd
    have HD : Hid (d ≠ 0) := hd
    have HV : Hid (fitV (mdq a b d) = mdV a b d ∧ fitB (mdq a b d) = mdB a b d) := by show _ ∧ _; unfold mdV mdB; rw [if_neg hd, if_neg hd]; exact ⟨rfl, rfl⟩
    obtain ⟨p, Ep⟩ : ∃ p, Hid (mdV a b d = p) := ⟨_, rfl⟩
    obtain ⟨pb, Epb⟩ : ∃ p, Hid (mdB a b d = p) := ⟨_, rfl⟩
    rw [Ep.out, Epb.out]
    clear hd
    go_enter Tryz.func41, Tryz.ntmps41
    go_wp2_with (first
      | (go_at_call_of 36 (a); refine (of_is a w h0.out).mono ?_; rintro e w1 ⟨ra, rfl, hra, hb1⟩; have HRA : Hid (IsL ra a) := hra; have HB1 : Hid (Below w.heap.size w w1) := hb1; clear hra hb1)
      | (go_at_call_of 36 (b); refine (of_is b w1 h2.out).mono ?_; rintro e w2 ⟨rb, rfl, hrb, hb2⟩; have HRB : Hid (IsL rb b) := hrb; have HB2 : Hid (Below w.heap.size w w2) := bnx HB1.out hb2; clear hrb hb2)
      | (go_at_call 38; refine (times_is ra rb a b w2 HRA.out HRB.out (small a h0.out) (small b h2.out)).mono ?_; rintro e w3 ⟨rp, rfl, hrp, hb3⟩; have HRP : Hid (IsL rp (a * b)) := hrp; have HB3 : Hid (Below w.heap.size w w3) := bnx HB2.out hb3; clear hrp hb3)
      | (go_at_call_of 36 (d); refine (of_is d w3 h4.out).mono ?_; rintro e w4 ⟨rd, rfl, hrd, hb4⟩; have HRD : Hid (IsL rd d) := hrd; have HB4 : Hid (Below w.heap.size w w4) := bnx HB3.out hb4; clear hrd hb4)
      | (go_at_call 37; refine (over_is rp rd (a * b) d w4 HRP.out HRD.out HD.out (small d h4.out)).mono ?_; rw [mdq_eq]; rintro e w5 ⟨s, q, t, r, rfl, hq, hb5⟩; have HQ : Hid (IsL (.agg (LA s q)) (mdq a b d)) := hq; have HB5 : Hid (Below w.heap.size w w5) := bnx HB4.out hb5; clear hq hb5)
      | ((with_reducible refine guard_store 61 ?_); first | (refine wpList_store_longO rfl _ _ rfl (lay2z w5 #[Value.bool false, Value.int .u64 0, Value.int .u64 0, Value.int .u64 0, Value.int .u64 0, Value.int .u64 0, Value.int .u64 0, Value.int .u64 0, Value.int .u64 0, Value.int .u64 0, Value.int .u64 0, Value.int .u64 0, Value.int .u64 0, Value.int .u64 0, Value.int .u64 0, Value.int .u64 0, Value.int .u64 0] rfl).1 rfl rfl ?_; intro w6 hL6 hO6 hB6; have H6 : Hid (LongAt w6 w5.heap.size s q ∧ LongAt w6 (w5.heap.size + 1) false (fun _ => 0) ∧ Below w5.heap.size w5 w6) := ⟨hL6, hO6 _ _ _ (by omega) (lay2z w5 #[Value.bool false, Value.int .u64 0, Value.int .u64 0, Value.int .u64 0, Value.int .u64 0, Value.int .u64 0, Value.int .u64 0, Value.int .u64 0, Value.int .u64 0, Value.int .u64 0, Value.int .u64 0, Value.int .u64 0, Value.int .u64 0, Value.int .u64 0, Value.int .u64 0, Value.int .u64 0, Value.int .u64 0] rfl).2.1, hB6 _ _ (lay2z w5 #[Value.bool false, Value.int .u64 0, Value.int .u64 0, Value.int .u64 0, Value.int .u64 0, Value.int .u64 0, Value.int .u64 0, Value.int .u64 0, Value.int .u64 0, Value.int .u64 0, Value.int .u64 0, Value.int .u64 0, Value.int .u64 0, Value.int .u64 0, Value.int .u64 0, Value.int .u64 0, Value.int .u64 0] rfl).2.2 (Nat.le_refl _)⟩; clear hL6 hO6 hB6) | (refine wpList_store_longO rfl _ _ rfl H6.out.2.1 rfl rfl ?_; intro w7 hL7 hO7 hB7; have H7 : Hid (LongAt w7 w5.heap.size s q ∧ Below w.heap.size w w7) := ⟨hO7 _ _ _ (by omega) H6.out.1, bnx HB5.out (hB7 _ _ H6.out.2.2 (by omega))⟩; clear hL7 hO7 hB7))
      | ((with_reducible refine guard_load 61 ?_); refine wpList_load_long rfl _ rfl H7.out.1 rfl ?_)
      | (go_at_call 34; refine (fits_is _ _ w7 HQ.out).mono ?_; rw [HV.out.1, HV.out.2, Ep.out, Epb.out]; rintro e w8 ⟨rfl, hb8⟩; have HB8 : Hid (Below w.heap.size w w8) := bnx H7.out.2 hb8; clear hb8))
    go_ret2
    exact ⟨rfl, HB8.out⟩
end Go.Proofs.YtblfmfanfpohbaaGreat.rmd
namespace Go.Proofs.YtblfmfanfpohbaaGreat
open Go.ChangeShapes Go.WideShapes Go.ChangeAt Go.RowKit
set_option linter.unusedVariables false
set_option linter.unusedSimpArgs false
theorem StC.drewN {w x : World} {b : Nat} {s : St} {a : Option Addr} {n cap : Nat} (h : StC w b s a n cap x) (k : Nat) : StC w b s a n cap (x.drewN k) := by
  induction k with
  | zero => exact h
  | succ k ih => exact StC.drew ih
set_option maxRecDepth 20000 in
set_option maxHeartbeats 2000000 in
theorem rnet_any (s : St) (a : Option Addr) (n cap : Nat) (w : World) (hn : s.lines.length = n) (hl : Lns w a s.lines) (hb : linesB s.lines = true) :
    Calls Tryz.prog 14 #[.agg (stA s (.slice a n cap))] w fun e w' => e = .returned (.int .i64 (net s.lines)) ∧ Below w.heap.size w w' := by
  have HN : Hid (s.lines.length = n) := hn
  have HB : Hid (linesB s.lines = true) := hb
  have hn16 : n ≤ 16 := by rw [← hn]; exact (linesB_facts hb).1
  obtain ⟨W, hW⟩ : ∃ W, w.alloc (.cells (stA s (.slice a n cap)) 25) = W := ⟨_, rfl⟩
  have HS := StC.new w s a n cap hl
  rw [hW] at HS
  have HSH : Hid (StC w w.heap.size s a n cap W) := HS
  have c5 : W.cell? ⟨w.heap.size, 5, none⟩ = some (.slice a n cap) := HS.1.cell 5 _ rfl
  clear hn hb hl HS
  go_enter Tryz.func14, Tryz.ntmps14
  go_wp2
  go_loopw [3, 8] (fun vs vi wr => ∃ (k n0 : Nat) (S : Int), k ≤ n ∧ vs = .int .i64 S ∧ vi = .int .i64 k ∧ wr = W.drewN n0 ∧ Hid (S = net (s.lines.take k))) (fun _ vi _ => n - (intOf vi).toNat)
  case atStart => exact ⟨0, 0, 0, Nat.zero_le _, rfl, rfl, rfl, by show (0 : Int) = net (s.lines.take 0); simp [net]⟩
  case round =>
    obtain ⟨k, n0, S, hk, rfl, rfl, rfl, HI⟩ := hrel
    by_cases hkn : k < n
    · obtain ⟨p, hp⟩ := ln_get (L := s.lines) (k := k) (by rw [HN.out]; exact hkn)
      obtain ⟨b, off, rfl, hlt, q0, q1, q2, q3⟩ := HSH.out.2.1.cells k p hp
      have f := (linesB_facts HB.out).2 k p hp
      obtain ⟨b1, b2⟩ := worth_bound (q := p.qty) (p := p.price) (by omega) (by omega) (by omega) (by omega)
      have t1 := net_take HB.out k (by rw [HN.out]; omega)
      have e1 : net (s.lines.take (k + 1)) = S + p.qty * p.price := by rw [ln_take _ _ _ hp, net_append, HI.out]; simp [net]
      obtain ⟨Wt, hWt⟩ : ∃ W, p.qty * p.price = W := ⟨_, rfl⟩
      rw [hWt] at b1 b2 e1
      have hww : wrap64 (p.qty * p.price) = Wt := by rw [hWt]; exact wrap64_in (by omega) (by omega)
      have hS0 : 0 ≤ S := by rw [HI.out]; exact t1.1
      have hS1 : S ≤ 160000000000000 := by rw [HI.out]; omega
      have hsw : wrap64 (S + Wt) = S + Wt := wrap64_in (by omega) (by omega)
      have HE : Hid (S + Wt = net (s.lines.take (k + 1))) := e1.symm
      clear f t1 e1 hWt hp
      go_wp2
      go_quiet (fail)
      go_wp2
      go_roundw
      case rel => exact ⟨k + 1, n0 + nq, S + Wt, by omega, by go_num, by go_num, by first | rfl | exact drewN_add _ _ _, HE.out⟩
      case measure => simp [intOf]; omega
    · obtain rfl : k = n := by omega
      have HT : Hid (S = net s.lines) := by have h := HI.out; rw [List.take_of_length_le (by rw [HN.out]; omega)] at h; exact h
      go_wp2
      go_ret
      exact ⟨ret_int (by rw [← HT.out]), (StC.drewN HSH.out _).2.2⟩
set_option maxRecDepth 20000 in
set_option maxHeartbeats 2000000 in
theorem runt_any (s : St) (a : Option Addr) (n cap : Nat) (w : World) (hn : s.lines.length = n) (hl : Lns w a s.lines) (hm : n ≤ maxLen) :
    Calls Tryz.prog 31 #[.agg (stA s (.slice a n cap))] w fun e w' => e = .returned (.bool (unshB s.lines)) ∧ Below w.heap.size w w' := by
  have HN : Hid (s.lines.length = n) := hn
  unfold maxLen at hm
  obtain ⟨W, hW⟩ : ∃ W, w.alloc (.cells (stA s (.slice a n cap)) 25) = W := ⟨_, rfl⟩
  have HS := StC.new w s a n cap hl
  rw [hW] at HS
  have HSH : Hid (StC w w.heap.size s a n cap W) := HS
  have c5 : W.cell? ⟨w.heap.size, 5, none⟩ = some (.slice a n cap) := HS.1.cell 5 _ rfl
  clear hn hl HS
  go_enter Tryz.func31, Tryz.ntmps31
  go_wp2
  go_loopw [7] (fun vi wr => ∃ (k n0 : Nat), k ≤ n ∧ vi = .int .i64 k ∧ wr = W.drewN n0 ∧ Hid (unshB s.lines = (s.lines.drop k).all (fun l => decide (l.shipped ≤ 0)))) (fun vi _ => n - (intOf vi).toNat)
  case atStart => exact ⟨0, 0, Nat.zero_le _, rfl, rfl, rfl⟩
  case round =>
    obtain ⟨k, n0, hk, rfl, rfl, HI⟩ := hrel
    by_cases hkn : k < n
    · obtain ⟨p, hp⟩ := ln_get (L := s.lines) (k := k) (by rw [HN.out]; exact hkn)
      obtain ⟨b, off, rfl, hlt, q0, q1, q2, q3⟩ := HSH.out.2.1.cells k p hp
      have HE : Hid (unshB s.lines = (decide (p.shipped ≤ 0) && (s.lines.drop (k + 1)).all (fun l => decide (l.shipped ≤ 0)))) := HI.out.trans (all_drop hp)
      clear hp
      by_cases ht : p.shipped ≤ 0
      · have HF : Hid (unshB s.lines = (s.lines.drop (k + 1)).all (fun l => decide (l.shipped ≤ 0))) := by show _ = _; rw [HE.out, decide_eq_true ht]; rfl
        go_wp2
        go_roundw
        case rel => exact ⟨k + 1, n0, by omega, by go_num, rfl, HF.out⟩
        case measure => simp [intOf]; omega
      · have HF : Hid (unshB s.lines = false) := by show _ = _; rw [HE.out, decide_eq_false ht]; rfl
        go_wp2
        go_ret
        exact ⟨ret_bool (by rw [HF.out]), (StC.drewN HSH.out _).2.2⟩
    · have HT : Hid (unshB s.lines = true) := by show _ = _; rw [HI.out, List.drop_eq_nil_of_le (by rw [HN.out]; omega)]; rfl
      go_wp2
      go_ret
      exact ⟨ret_bool (by rw [HT.out]), (StC.drewN HSH.out _).2.2⟩
set_option maxRecDepth 20000 in
set_option maxHeartbeats 2000000 in
theorem rwhole_any (s : St) (a : Option Addr) (n cap : Nat) (w : World) (hn : s.lines.length = n) (hl : Lns w a s.lines) (hm : n ≤ maxLen) :
    Calls Tryz.prog 32 #[.agg (stA s (.slice a n cap))] w fun e w' => e = .returned (.bool (wholeB s.lines)) ∧ Below w.heap.size w w' := by
  have HN : Hid (s.lines.length = n) := hn
  unfold maxLen at hm
  obtain ⟨W, hW⟩ : ∃ W, w.alloc (.cells (stA s (.slice a n cap)) 25) = W := ⟨_, rfl⟩
  have HS := StC.new w s a n cap hl
  rw [hW] at HS
  have HSH : Hid (StC w w.heap.size s a n cap W) := HS
  have c5 : W.cell? ⟨w.heap.size, 5, none⟩ = some (.slice a n cap) := HS.1.cell 5 _ rfl
  clear hn hl HS
  go_enter Tryz.func32, Tryz.ntmps32
  go_wp2
  go_loopw [7] (fun vi wr => ∃ (k n0 : Nat), k ≤ n ∧ vi = .int .i64 k ∧ wr = W.drewN n0 ∧ Hid (wholeB s.lines = (s.lines.drop k).all (fun l => decide (l.qty ≤ l.shipped)))) (fun vi _ => n - (intOf vi).toNat)
  case atStart => exact ⟨0, 0, Nat.zero_le _, rfl, rfl, rfl⟩
  case round =>
    obtain ⟨k, n0, hk, rfl, rfl, HI⟩ := hrel
    by_cases hkn : k < n
    · obtain ⟨p, hp⟩ := ln_get (L := s.lines) (k := k) (by rw [HN.out]; exact hkn)
      obtain ⟨b, off, rfl, hlt, q0, q1, q2, q3⟩ := HSH.out.2.1.cells k p hp
      have HE : Hid (wholeB s.lines = (decide (p.qty ≤ p.shipped) && (s.lines.drop (k + 1)).all (fun l => decide (l.qty ≤ l.shipped)))) := HI.out.trans (all_drop hp)
      clear hp
      by_cases ht : p.qty ≤ p.shipped
      · have HF : Hid (wholeB s.lines = (s.lines.drop (k + 1)).all (fun l => decide (l.qty ≤ l.shipped))) := by show _ = _; rw [HE.out, decide_eq_true ht]; rfl
        go_wp2
        go_quiet (fail)
        go_wp2
        go_roundw
        case rel => exact ⟨k + 1, n0 + nq, by omega, by go_num, by first | rfl | exact drewN_add _ _ _, HF.out⟩
        case measure => simp [intOf]; omega
      · have HF : Hid (wholeB s.lines = false) := by show _ = _; rw [HE.out, decide_eq_false ht]; rfl
        go_wp2
        go_quiet (fail)
        go_wp2
        go_ret
        exact ⟨ret_bool (by rw [HF.out]), (StC.drewN (StC.drewN HSH.out _) _).2.2⟩
    · have HT : Hid (wholeB s.lines = true) := by show _ = _; rw [HI.out, List.drop_eq_nil_of_le (by rw [HN.out]; omega)]; rfl
      go_wp2
      go_ret
      exact ⟨ret_bool (by rw [HT.out]), (StC.drewN HSH.out _).2.2⟩
theorem lnB_no {last : Int} {l : Ln} (h : ¬ (last < l.item ∧ l.item ≤ 65535 ∧ 0 ≤ l.price ∧ l.price ≤ 100000000 ∧ 1 ≤ l.qty ∧ l.qty ≤ 100000 ∧ 0 ≤ l.shipped ∧ l.shipped ≤ l.qty)) : lnB last l = false := by
  cases hb : lnB last l with
  | false => rfl
  | true => exact absurd (lnB_facts hb) h
theorem lnB_yes {last : Int} {l : Ln} (h : last < l.item ∧ l.item ≤ 65535 ∧ 0 ≤ l.price ∧ l.price ≤ 100000000 ∧ 1 ≤ l.qty ∧ l.qty ≤ 100000 ∧ 0 ≤ l.shipped ∧ l.shipped ≤ l.qty) : lnB last l = true := by
  simp only [lnB, Bool.and_eq_true, wit_true]
  omega
set_option maxRecDepth 20000 in
set_option maxHeartbeats 4000000 in
theorem rlines_any (s : St) (a : Option Addr) (n cap : Nat) (w : World) (hn : s.lines.length = n) (hl : Lns w a s.lines) (hm : n ≤ maxLen) :
    Calls Tryz.prog 29 #[.agg (stA s (.slice a n cap))] w fun e w' => e = .returned (.bool (linesB s.lines)) ∧ Below w.heap.size w w' := by
  unfold maxLen at hm
  have HN : Hid (s.lines.length = n) := hn
  obtain ⟨W, hW⟩ : ∃ W, w.alloc (.cells (stA s (.slice a n cap)) 25) = W := ⟨_, rfl⟩
  have HS := StC.new w s a n cap hl
  rw [hW] at HS
  have HSH : Hid (StC w w.heap.size s a n cap W) := HS
  have c5 : W.cell? ⟨w.heap.size, 5, none⟩ = some (.slice a n cap) := HS.1.cell 5 _ rfl
  clear hl HS
  by_cases h16 : n ≤ 16
  · have HV : Hid (linesB s.lines = linesFrom (-1) (s.lines.drop 0)) := by show _ = _; unfold linesB; rw [decide_eq_true (by omega)]; rfl
    clear hn
    go_enter Tryz.func29, Tryz.ntmps29
    go_wp2
    go_loopw [3, 13] (fun vl vi wr => ∃ (k : Nat) (l : Int), k ≤ n ∧ vl = .int .i64 l ∧ vi = .int .i64 k ∧ -1 ≤ l ∧ l ≤ 65535 ∧ Hid (linesB s.lines = linesFrom l (s.lines.drop k) ∧ StC w w.heap.size s a n cap wr)) (fun _ vi _ => n - (intOf vi).toNat)
    case atStart => exact ⟨0, -1, Nat.zero_le _, rfl, rfl, by omega, by omega, HV.out, HSH.out⟩
    case round =>
      clear HV c5 hW
      obtain ⟨k, l, hk, rfl, rfl, hl0, hl1, HI⟩ := hrel
      have c5 : wr.cell? ⟨w.heap.size, 5, none⟩ = some (.slice a n cap) := HI.out.2.1.cell 5 _ rfl
      by_cases hkn : k < n
      · obtain ⟨p, hp⟩ := ln_get (L := s.lines) (k := k) (by rw [HN.out]; exact hkn)
        obtain ⟨b, off, rfl, hlt, q0, q1, q2, q3⟩ := HI.out.2.2.1.cells k p hp
        have HE : Hid (linesB s.lines = (lnB l p && linesFrom p.item (s.lines.drop (k + 1)))) := HI.out.1.trans (rightLines_step hp)
        have HB2 : ∀ o, Hid (StC w w.heap.size s (some ⟨b, off, none⟩) n cap (wr.alloc o)) := fun o => StC.alloc HI.out.2 o
        clear hp
        go_wp2
        all_goals first
          | (go_ret; exact ⟨ret_bool (by rw [HE.out, lnB_no (by omega)]; rfl), (HB2 _).out.2.2⟩)
          | (refine ⟨⟨k + 1, p.item, by omega, by go_num, by go_num, by omega, by omega, by rw [HE.out, lnB_yes (by omega)]; rfl, (HB2 _).out⟩, by simp [intOf]; omega⟩)
      · have HT : Hid (linesB s.lines = true) := by show _ = _; rw [HI.out.1, List.drop_eq_nil_of_le (by rw [HN.out]; omega)]; rfl
        go_wp2
        go_ret
        exact ⟨ret_bool (by rw [HT.out]), HI.out.2.2.2⟩
  · have HF : Hid (linesB s.lines = false) := by show _ = _; unfold linesB; rw [decide_eq_false (by omega)]; rfl
    clear hn
    go_enter Tryz.func29, Tryz.ntmps29
    go_wp2
    go_ret
    exact ⟨ret_bool (by rw [HF.out]), HSH.out.2.2⟩
set_option maxRecDepth 20000 in
theorem rstands_any (s : St) (a : Option Addr) (n cap : Nat) (w : World) : Calls Tryz.prog 30 #[.agg (stA s (.slice a n cap))] w fun e w' => e = .returned (.int .i64 (standS s)) ∧ Below w.heap.size w w' := by
  by_cases h : s.status = 2
  · have HS : Hid (standS s = s.prior) := if_pos h
    have hb : (s.status == 2) = true := by simpa using h
    rw [HS.out]
    clear h
    unfold stA
    go_enter Tryz.func30, Tryz.ntmps30
    go_wp2
    go_ret
    exact ⟨rfl, (Below.refl _ _).alloc (Nat.le_refl _) _⟩
  · have HS : Hid (standS s = s.status) := if_neg h
    have hb : (s.status == 2) = false := by simpa using h
    rw [HS.out]
    clear h
    unfold stA
    go_enter Tryz.func30, Tryz.ntmps30
    go_wp2
    go_ret
    exact ⟨rfl, (Below.refl _ _).alloc (Nat.le_refl _) _⟩
set_option maxRecDepth 20000 in
set_option maxHeartbeats 4000000 in
theorem rdue_any (s : St) (a : Option Addr) (n cap : Nat) (w : World) (hn : s.lines.length = n) (hl : Lns w a s.lines) (hb : linesB s.lines = true) (ht0 : 0 ≤ s.tax) (ht : s.tax ≤ 5000) :
    Calls Tryz.prog 16 #[.agg (stA s (.slice a n cap))] w fun e w' => e = .returned (.int .i64 (dueS s)) ∧ Below w.heap.size w w' := by
  have HE := (StC.new w s a n cap hl).drew
  obtain ⟨E, hE⟩ : ∃ E, StC w w.heap.size s a n cap = E := ⟨_, rfl⟩
  have R : Hid (∀ w2, E w2 → w2.cell? ⟨w.heap.size, 4, none⟩ = some (.int .i64 s.tax)) := fun w2 h => by rw [← hE] at h; exact h.1.cell 4 _ rfl
  have RS : Hid (∀ w2, E w2 → StAt w2 w.heap.size s (.slice a n cap)) := fun w2 h => by rw [← hE] at h; exact h.1
  have HBel : Hid (∀ w2, E w2 → Below w.heap.size w w2) := fun w2 h => by rw [← hE] at h; exact h.2.2
  have HLn : Hid (∀ w2, E w2 → Lns w2 a s.lines) := fun w2 h => by rw [← hE] at h; exact h.2.1
  have HK : Hid (∀ w1 w2, E w1 → Below w1.heap.size w1 w2 → E w2) := fun w1 w2 h h2 => by rw [← hE] at h ⊢; exact h.keep h2
  obtain ⟨S, hS⟩ : ∃ S, net s.lines = S := ⟨_, rfl⟩
  have t1 := net_bound hb
  rw [hS] at t1
  obtain ⟨m1, m2⟩ := md_tax t1.1 t1.2 ht0 ht
  obtain ⟨b1, b2⟩ := tax_bound t1.1 t1.2 ht0 ht
  obtain ⟨X, hX⟩ : ∃ X, S * s.tax / 10000 = X := ⟨_, rfl⟩
  have hX0 : 0 ≤ X := by omega
  have hX1 : X ≤ 80000000000000 := by omega
  have HM : Hid (mdV S s.tax 10000 = X ∧ mdB S s.tax 10000 = true) := ⟨m1.trans hX, m2⟩
  have HD : Hid (dueS s = S + X) := by show _ = _; unfold dueS; rw [hS, hX]
  have hSX : wrap64 (S + X) = S + X := wrap64_in (by omega) (by omega)
  have C1 : Hid (∀ w2, E w2 → Calls Tryz.prog 14 #[.agg (stA s (.slice a n cap))] w2 fun e w' => e = .returned (.int .i64 S) ∧ E w') := fun w2 h => (rnet_any s a n cap w2 hn (HLn.out w2 h) hb).mono fun e w' ⟨h1, h2⟩ => ⟨by rw [← hS]; exact h1, HK.out _ _ h h2⟩
  have C2 : Hid (∀ w2, E w2 → Calls Tryz.prog 41 #[.int .i64 S, .int .i64 s.tax, .int .i64 10000] w2 fun e w' => e = .returned (.tuple #[.int .i64 X, .bool true]) ∧ E w') := fun w2 h => (rmd.rmd_any S s.tax 10000 w2 ⟨by omega, by omega⟩ ⟨by omega, by omega⟩ ⟨by omega, by omega⟩).mono fun e w' ⟨h1, h2⟩ => ⟨by rw [HM.out.1, HM.out.2] at h1; exact h1, HK.out _ _ h h2⟩
  rw [hE] at HE
  have HEE : Hid (E (World.drew _)) := HE
  rw [HD.out]
  clear hn hl hb hS hE HE m1 m2 b1 b2 hX
  go_enter Tryz.func16, Tryz.ntmps16
  go_wp2
  refine wp_region_quiet (C := E) (by kernel_rfl) (by kernel_rfl) HEE.out ?_
  simp only [List.toList_toArray]
  repeat (any_goals (first
    | go_big_quiet_skip
    | (go_big_quiet_want
       first
       | (refine quiet_val (v := .agg (stA s (.slice a n cap))) (fun w2 hw2 => exec_load_st (.tmp 1) rfl rfl (RS.out w2 hw2)) ?_
          go_big_quiet_on; simp only [Act.put, List.setIfInBounds_toArray, List.set_cons_zero, List.set_cons_succ])
       | (refine quiet_val (v := ?_) (fun w2 hw2 => ?_) ?_
          rotate_left
          · (first | (go_simp; with_reducible rfl) | (have q1 := R.out w2 hw2; go_simp; with_reducible rfl))
          go_big_quiet_on; simp only [Act.put, List.setIfInBounds_toArray, List.set_cons_zero, List.set_cons_succ])
       | (refine quiet_call (v := ?_) (f := ?_) (args := ?_) (fun w2 hw2 => ?_) (fun w2 hw2 => ?_) ?_
          rotate_left 3
          · (go_simp; refine ⟨?_, ?_⟩ <;> with_reducible rfl)
          first
          | (· (go_at_call 14; exact C1.out _ hw2)
             (go_big_quiet_on; simp only [Act.put, List.setIfInBounds_toArray, List.set_cons_zero, List.set_cons_succ]))
          | (· (go_at_call 41; exact C2.out _ hw2)
             (go_big_quiet_on; simp only [Act.put, List.setIfInBounds_toArray, List.set_cons_zero, List.set_cons_succ]))))))
  all_goals
    refine wpQuiet_nil ?_
    intro w3 hw3
    have HW3 : Hid (E w3) := hw3
    clear hw3
    go_wp2_with (first
      | ((with_reducible refine guard_load 25 ?_); refine wpList_load_st rfl _ rfl (RS.out w3 HW3.out) rfl ?_)
      | (go_at_call 14; refine (C1.out _ HW3.out).mono ?_; rintro _ w4 ⟨rfl, h4⟩; have HW4 : Hid (E w4) := h4; clear h4))
    go_ret
    exact ⟨rfl, HBel.out _ HW4.out⟩
end Go.Proofs.YtblfmfanfpohbaaGreat
namespace Go.Proofs.YtblfmfanfpohbaaGreat
open Go.ChangeShapes Go.WideShapes Go.ChangeAt Go.RowKit
def hasK (v : Int) : Nat := if v ≤ 1 then 5 else if v ≤ 2 then 6 else if v ≤ 3 then 7 else if v ≤ 4 then 8 else 10
def lowL (v : Int) : List Int := [0, 1, 1, 0, loQ v, 0, 0, 0, 0, 0, 0]
def highL (v : Int) : List Int := [0, 10, 1099511627776, 65535, 10000, hiP v, 3, 5000, 0, 1099511627776, 0]
def numL (e : Ev) : List Int := [0, e.kind, e.order, e.item, e.qty, e.price, e.cur, e.tax, 0, e.stamp, 0]
/-- a tag's number is the version's own or nought, and within its bounds -/
def okT (v : Int) (e : Ev) (j : Nat) : Prop := (hasK v < j → (numL e).getD j 0 = 0) ∧ (lowL v).getD j 0 ≤ (numL e).getD j 0 ∧ (numL e).getD j 0 ≤ (highL v).getD j 0
theorem ten {j : Nat} (h1 : 1 ≤ j) (h2 : j ≤ 10) : j = 1 ∨ j = 2 ∨ j = 3 ∨ j = 4 ∨ j = 5 ∨ j = 6 ∨ j = 7 ∨ j = 8 ∨ j = 9 ∨ j = 10 := by omega
theorem okT_of {v : Int} {e : Ev} (r : Right v e) (j : Nat) (h1 : 1 ≤ j) (h2 : j ≤ 10) : okT v e j := by
  obtain ⟨a1, a2, a3, a4, a5, a6, a7, a8, a9, a10, a11, a12, a13, a14, a15, a16, a17, a18, a19, a20, a21, a22, a23, a24, a25⟩ := r
  have hv : v = 1 ∨ v = 2 ∨ v = 3 ∨ v = 4 ∨ v = 5 := by omega
  have hk : lastK v ≤ 10 := by unfold lastK; split <;> (try split) <;> (try split) <;> omega
  unfold okT
  rcases hv with rfl | rfl | rfl | rfl | rfl <;> rcases ten h1 h2 with rfl | rfl | rfl | rfl | rfl | rfl | rfl | rfl | rfl | rfl <;> simp [hasK, lowL, highL, numL] <;> omega
theorem right_tags {v : Int} {e : Ev} (h1 : 1 ≤ v) (h5 : v ≤ 5) (k1 : 1 ≤ e.kind) (k2 : e.kind ≤ lastK v) (s1 : e.who.size ≤ 16) (s2 : e.note.size ≤ 120) (h : ∀ j, 1 ≤ j → j < 11 → okT v e j)
    (w : 3 < v ∨ nilB e.who = true) (m : 4 < v ∨ nilB e.note = true) (pl : plainB e.who.data.toList = true) : Right v e := by
  have t2 := h 2 (by omega) (by omega)
  have t3 := h 3 (by omega) (by omega)
  have t4 := h 4 (by omega) (by omega)
  have t5 := h 5 (by omega) (by omega)
  have t6 := h 6 (by omega) (by omega)
  have t7 := h 7 (by omega) (by omega)
  have t9 := h 9 (by omega) (by omega)
  simp [okT, lowL, highL, numL] at t2 t3 t4 t5 t6 t7 t9
  have hh : (v ≤ 1 → hasK v = 5) ∧ (v ≤ 2 → hasK v ≤ 6) ∧ (v ≤ 4 → hasK v ≤ 8) := by unfold hasK; refine ⟨fun h => ?_, fun h => ?_, fun h => ?_⟩ <;> (repeat (split <;> try omega)) <;> omega
  refine ⟨h1, h5, k1, k2, s1, s2, t2.2.1, t2.2.2, t3.2.1, t3.2.2, t4.2.1, t4.2.2, t5.2.1, t5.2.2, t6.2.1, t6.2.2, t7.2.1, t7.2.2, pl, t9.2.1, t9.2.2, ?_, ?_, w, ?_⟩
  · by_cases hv : 1 < v
    · exact .inl hv
    · exact .inr (t6.1 (by have := hh.1 (by omega); omega))
  · by_cases hv : 2 < v
    · exact .inl hv
    · exact .inr (t7.1 (by have := hh.2.1 (by omega); omega))
  · rcases m with m | m
    · exact .inl m
    · by_cases hv : 4 < v
      · exact .inl hv
      · exact .inr ⟨t9.1 (by have := hh.2.2 (by omega); omega), m⟩
theorem chk_31 {v : Int} {e : Ev} (h1 : 1 ≤ v) (h5 : v ≤ 5) (hk : e.kind < 1 ∨ lastK v < e.kind) : chk v e = 31 := by
  unfold chk
  rw [if_neg (by omega)]
  exact if_pos hk
theorem chk_24 {v : Int} {e : Ev} (h1 : 1 ≤ v) (h5 : v ≤ 5) (k1 : 1 ≤ e.kind) (k2 : e.kind ≤ lastK v) (hs : 16 < e.who.size ∨ 120 < e.note.size) : chk v e = 24 := by
  unfold chk
  rw [if_neg (by omega)]
  unfold chkV
  rw [if_neg (by omega), if_pos hs]
theorem chk_32 {v : Int} {e : Ev} (h1 : 1 ≤ v) (h5 : v ≤ 5) (k1 : 1 ≤ e.kind) (k2 : e.kind ≤ lastK v) (s1 : e.who.size ≤ 16) (s2 : e.note.size ≤ 120) (hn : ¬ Right v e) : chk v e = 32 := by
  have h0 : chk v e ≠ 0 := fun h => hn (right_of h)
  unfold chk at h0 ⊢
  rw [if_neg (by omega)] at h0 ⊢
  unfold chkV at h0 ⊢
  rw [if_neg (by omega), if_neg (by omega)] at h0 ⊢
  split at h0
  · exact absurd rfl h0
  · rename_i hb
    rw [if_neg hb]
/-- a row of whole numbers -/
def RowI (w : World) (b : Nat) (l : List Int) : Prop := b < w.heap.size ∧ ∀ j, j < l.length → w.cell? ⟨b, j, none⟩ = some (.int .i64 (l.getD j 0))
theorem RowI.keep {w w2 : World} {b : Nat} {l : List Int} (h : RowI w b l) (hb : Below w.heap.size w w2) : RowI w2 b l := ⟨Nat.lt_of_lt_of_le h.1 hb.size, fun j hj => (hb.cell (p := ⟨b, j, none⟩) h.1).trans (h.2 j hj)⟩
def IV (l : List Int) : Array Value := (l.map fun (x : Int) => Value.int .i64 x).toArray
theorem row_of {w : World} {b : Nat} {l : List Int} (h : w.heap[b]? = some (.cells (IV l) 3)) : RowI w b l := by
  refine ⟨?_, fun j hj => ?_⟩
  · by_cases hh : b < w.heap.size
    · exact hh
    · rw [Array.getElem?_eq_none (by omega)] at h; cases h
  · rw [cell_of_row w b j _ _ _ h]
    simp [IV, hj]
theorem two_new {w w2 : World} {A B : Array Value} {T U : TypeId} (hb : Below ((w.alloc (.cells A T)).alloc (.cells B U)).heap.size ((w.alloc (.cells A T)).alloc (.cells B U)) w2) : Below w.heap.size w w2 ∧ w2.heap[w.heap.size]? = some (.cells A T) ∧ w2.heap[w.heap.size + 1]? = some (.cells B U) := by
  refine ⟨(((Below.refl _ _).alloc (Nat.le_refl _) _).alloc (by simp) _).trans (hb.mono (by simp; omega)), ?_, ?_⟩
  · rw [hb.block w.heap.size (by simp; omega)]
    simp only [World.alloc, Array.getElem?_push, Array.size_push]; simp
  · rw [hb.block (w.heap.size + 1) (by simp)]
    simp only [World.alloc, Array.getElem?_push, Array.size_push]; simp
set_option maxRecDepth 20000 in
theorem rlast_any (v : Int) (w : World) (h1 : 1 ≤ v) (h5 : v ≤ 5) :
    Calls Tryz.prog 75 #[.int .i64 v] w fun x w' => x = .returned (.int .i64 (lastK v)) ∧ Below w.heap.size w w' := by
  have hv : v = 1 ∨ v = 2 ∨ v = 3 ∨ v = 4 ∨ v = 5 := by omega
  clear h1 h5
  rcases hv with rfl | rfl | rfl | rfl | rfl
  all_goals
    go_enter Tryz.func75, Tryz.ntmps75
    go_wp2
    go_ret
    exact ⟨rfl, (Below.refl _ _).alloc (Nat.le_refl _) _⟩
set_option maxRecDepth 20000 in
theorem rhas_any (v : Int) (w : World) (h1 : 1 ≤ v) (h5 : v ≤ 5) :
    Calls Tryz.prog 77 #[.int .i64 v] w fun x w' => x = .returned (.int .i64 (hasK v : Nat)) ∧ Below w.heap.size w w' := by
  have hv : v = 1 ∨ v = 2 ∨ v = 3 ∨ v = 4 ∨ v = 5 := by omega
  clear h1 h5
  rcases hv with rfl | rfl | rfl | rfl | rfl
  all_goals
    go_enter Tryz.func77, Tryz.ntmps77
    go_wp2
    go_ret
    exact ⟨rfl, (Below.refl _ _).alloc (Nat.le_refl _) _⟩
set_option maxRecDepth 20000 in
set_option maxHeartbeats 1000000 in
theorem rnums_any (k o i q p c t : Int) (wh : ByteArray) (s : Int) (n : ByteArray) (w : World) :
    Calls Tryz.prog 76 #[.agg #[.int .i64 k, .int .i64 o, .int .i64 i, .int .i64 q, .int .i64 p, .int .i64 c, .int .i64 t, .string wh, .int .i64 s, .string n]] w fun x w' => x = .returned (.slice (some ⟨w.heap.size + 1, 0, none⟩) 11 11) ∧ RowI w' (w.heap.size + 1) (numL ⟨k, o, i, q, p, c, t, wh, s, n⟩) ∧ Below w.heap.size w w' := by
  go_enter Tryz.func76, Tryz.ntmps76
  go_wp2
  go_ret
  refine ⟨rfl, row_of ?_, ((Below.refl _ _).alloc (Nat.le_refl _) _).alloc (by simp) _⟩
  simp only [World.alloc, Array.getElem?_push, Array.size_push]
  simp [IV, numL]
/-- the event, and the three rows of Check, in memory -/
def RC (E : World → Prop) (b : Nat) (v : Int) (e : Ev) (w : World) : Prop := E w ∧ RowI w b (lowL v) ∧ RowI w (b + 1) (highL v) ∧ RowI w (b + 1 + 1 + 1) (numL e)
theorem RC.keep {E : World → Prop} {b : Nat} {v : Int} {e : Ev} {w w2 : World} (h : RC E b v e w) (hn : ∀ w1 w2, E w1 → Below w1.heap.size w1 w2 → E w2) (hb : Below w.heap.size w w2) : Hid (RC E b v e w2) := ⟨hn _ _ h.1 hb, h.2.1.keep hb, h.2.2.1.keep hb, h.2.2.2.keep hb⟩
theorem RC.cells {E : World → Prop} {b : Nat} {v : Int} {e : Ev} {w : World} (h : RC E b v e w) (j : Nat) (hj : j < 11) : w.cell? ⟨b, j, none⟩ = some (.int .i64 ((lowL v).getD j 0)) ∧ w.cell? ⟨b + 1, j, none⟩ = some (.int .i64 ((highL v).getD j 0)) ∧ w.cell? ⟨b + 1 + 1 + 1, j, none⟩ = some (.int .i64 ((numL e).getD j 0)) :=
  ⟨h.2.1.2 j hj, h.2.2.1.2 j hj, h.2.2.2.2 j hj⟩
theorem RC.drewN {E : World → Prop} {b : Nat} {v : Int} {e : Ev} {w : World} (h : RC E b v e w) (hn : ∀ w1 w2, E w1 → Below w1.heap.size w1 w2 → E w2) (m : Nat) : Hid (RC E b v e (w.drewN m)) := h.keep hn (below_drewN (Below.refl _ _) m)
end Go.Proofs.YtblfmfanfpohbaaGreat
namespace Go.Proofs.YtblfmfanfpohbaaGreat
open Go.ChangeShapes Go.WideShapes Go.ChangeAt Go.RowKit
set_option linter.unusedSimpArgs false
set_option linter.unusedVariables false
set_option maxRecDepth 20000 in
set_option maxHeartbeats 8000000 in
theorem rcheck4 (k o i q p c t : Int) (wh : ByteArray) (s : Int) (n : ByteArray) (w : World) :
    Calls Tryz.prog 28 #[.int .i64 4, .agg #[.int .i64 k, .int .i64 o, .int .i64 i, .int .i64 q, .int .i64 p, .int .i64 c, .int .i64 t, .string wh, .int .i64 s, .string n]] w fun e w' => e = .returned (.int .i64 (chk 4 ⟨k, o, i, q, p, c, t, wh, s, n⟩)) ∧ Below w.heap.size w w' := by
  obtain ⟨E, _, hE, hn, hbel, hsize, r0, r1, r2, r3, r4, r5, r6, r7, r8, r9⟩ := ev_held w k o i q p c t wh s n
  have HN : Hid (∀ w1 w2, E w1 → Below w1.heap.size w1 w2 → E w2) := hn
  have HB : Hid (∀ w2, E w2 → Below w.heap.size w w2) := hbel
  have HZ : Hid (∀ w2, E w2 → w.heap.size < w2.heap.size) := hsize
  have R : Hid (∀ w2, E w2 → _ ∧ _ ∧ _ ∧ _ ∧ _ ∧ _ ∧ _ ∧ _ ∧ _ ∧ _) := fun w2 h => ⟨r0 w2 h, r1 w2 h, r2 w2 h, r3 w2 h, r4 w2 h, r5 w2 h, r6 w2 h, r7 w2 h, r8 w2 h, r9 w2 h⟩
  clear hn hbel hsize r0 r1 r2 r3 r4 r5 r6 r7 r8 r9
  have CK : ∀ w2, E w2 → Calls Tryz.prog 75 #[.int .i64 4] w2 fun e w' => e = .returned (.int .i64 9) ∧ E w' := fun w2 h => (rlast_any 4 w2 (by omega) (by omega)).mono fun e w' ⟨h1, h2⟩ => ⟨h1, HN.out _ _ h h2⟩
  have HCK : Hid (_) := CK
  clear CK
  have hk : k < 1 ∨ (1 ≤ k ∧ 9 < k) ∨ (1 ≤ k ∧ k ≤ 9) := by omega
  rcases hk with hk | ⟨hk, hk2⟩ | ⟨hk, hk2⟩
  · have HR : Hid (chk 4 ⟨k, o, i, q, p, c, t, wh, s, n⟩ = 31) := chk_31 (by omega) (by omega) (.inl hk)
    have hd : decide (k < 1) = true := by simpa using hk
    go_enter Tryz.func28, Tryz.ntmps28
    go_wp2
    refine wp_region_quiet (C := E) (by kernel_rfl) (by kernel_rfl) hE ?_
    simp only [List.toList_toArray]
    repeat (first
      | go_big_quiet_skip
      | (go_big_quiet_want
         first
         | (refine quiet_val (v := ?_) (fun w2 hw2 => ?_) ?_
            rotate_left
            · (first | (go_simp; with_reducible rfl) | (obtain ⟨q0, _⟩ := R.out w2 hw2; go_simp; with_reducible rfl))
            go_big_quiet_on; simp only [Act.put, List.setIfInBounds_toArray, List.set_cons_zero, List.set_cons_succ])
         | (refine quiet_call (v := ?_) (f := ?_) (args := ?_) (fun w2 hw2 => ?_) (fun w2 hw2 => ?_) ?_
            rotate_left 3
            · (go_simp; refine ⟨?_, ?_⟩ <;> with_reducible rfl)
            · (go_at_call 75; exact HCK.out _ hw2)
            go_big_quiet_on; simp only [Act.put, List.setIfInBounds_toArray, List.set_cons_zero, List.set_cons_succ])))
    refine wpQuiet_nil ?_
    intro w3 hw3'
    have HW3 : Hid (E w3) := hw3'
    clear hw3' hE
    go_wp2
    go_ret
    exact ⟨ret_int HR.out.symm, HB.out _ HW3.out⟩
  · have HR : Hid (chk 4 ⟨k, o, i, q, p, c, t, wh, s, n⟩ = 31) := chk_31 (by omega) (by omega) (.inr hk2)
    have hd : decide (k < 1) = false := by simp; omega
    have hd2 : decide (9 < k) = true := by simpa using hk2
    go_enter Tryz.func28, Tryz.ntmps28
    go_wp2
    refine wp_region_quiet (C := E) (by kernel_rfl) (by kernel_rfl) hE ?_
    simp only [List.toList_toArray]
    repeat (first
      | go_big_quiet_skip
      | (go_big_quiet_want
         first
         | (refine quiet_val (v := ?_) (fun w2 hw2 => ?_) ?_
            rotate_left
            · (first | (go_simp; with_reducible rfl) | (obtain ⟨q0, _⟩ := R.out w2 hw2; go_simp; with_reducible rfl))
            go_big_quiet_on; simp only [Act.put, List.setIfInBounds_toArray, List.set_cons_zero, List.set_cons_succ])
         | (refine quiet_call (v := ?_) (f := ?_) (args := ?_) (fun w2 hw2 => ?_) (fun w2 hw2 => ?_) ?_
            rotate_left 3
            · (go_simp; refine ⟨?_, ?_⟩ <;> with_reducible rfl)
            · (go_at_call 75; exact HCK.out _ hw2)
            go_big_quiet_on; simp only [Act.put, List.setIfInBounds_toArray, List.set_cons_zero, List.set_cons_succ])))
    refine wpQuiet_nil ?_
    intro w3 hw3'
    have HW3 : Hid (E w3) := hw3'
    clear hw3' hE
    go_wp2
    go_ret
    exact ⟨ret_int HR.out.symm, HB.out _ HW3.out⟩
  · have HK : Hid (¬ (k < 1 ∨ 9 < k)) := by show ¬ _; omega
    have hd : decide (k < 1) = false := by simp; omega
    have hd2 : decide (9 < k) = false := by simp; omega
    go_enter Tryz.func28, Tryz.ntmps28
    go_wp2
    refine wp_region_quiet (C := E) (by kernel_rfl) (by kernel_rfl) hE ?_
    simp only [List.toList_toArray]
    repeat (first
      | go_big_quiet_skip
      | (go_big_quiet_want
         first
         | (refine quiet_val (v := ?_) (fun w2 hw2 => ?_) ?_
            rotate_left
            · (first | (go_simp; with_reducible rfl) | (obtain ⟨q0, _⟩ := R.out w2 hw2; go_simp; with_reducible rfl))
            go_big_quiet_on; simp only [Act.put, List.setIfInBounds_toArray, List.set_cons_zero, List.set_cons_succ])
         | (refine quiet_call (v := ?_) (f := ?_) (args := ?_) (fun w2 hw2 => ?_) (fun w2 hw2 => ?_) ?_
            rotate_left 3
            · (go_simp; refine ⟨?_, ?_⟩ <;> with_reducible rfl)
            · (go_at_call 75; exact HCK.out _ hw2)
            go_big_quiet_on; simp only [Act.put, List.setIfInBounds_toArray, List.set_cons_zero, List.set_cons_succ])))
    refine wpQuiet_nil ?_
    intro w3 hw3'
    have HW3 : Hid (E w3) := hw3'
    clear hw3' hE
    obtain ⟨q0, q1, q2, q3, q4, q5, q6, q7, q8, q9⟩ := R.out w3 HW3.out
    by_cases hs1 : 16 < wh.size
    · have HR : Hid (chk 4 ⟨k, o, i, q, p, c, t, wh, s, n⟩ = 24) := chk_24 (by omega) (by omega) hk hk2 (.inl hs1)
      have hs1' : (16 : Int) < (wh.size : Int) := by omega
      go_wp2
      go_ret
      exact ⟨ret_int HR.out.symm, HB.out _ HW3.out⟩
    by_cases hs2 : 120 < n.size
    · have HR : Hid (chk 4 ⟨k, o, i, q, p, c, t, wh, s, n⟩ = 24) := chk_24 (by omega) (by omega) hk hk2 (.inr hs2)
      have hs1' : (wh.size : Int) ≤ 16 := by omega
      have hs2' : (120 : Int) < (n.size : Int) := by omega
      have hd3 : decide ((16 : Int) < (wh.size : Int)) = false := by simp; omega
      go_wp2
      go_ret
      exact ⟨ret_int HR.out.symm, HB.out _ HW3.out⟩
    have H32 : Hid (¬ Right 4 ⟨k, o, i, q, p, c, t, wh, s, n⟩ → chk 4 ⟨k, o, i, q, p, c, t, wh, s, n⟩ = 32) := fun h => chk_32 (by omega) (by omega) hk hk2 (by show wh.size ≤ 16; omega) (by show n.size ≤ 120; omega) h
    have HALL : Hid ((∀ j, 1 ≤ j → j < 11 → okT 4 ⟨k, o, i, q, p, c, t, wh, s, n⟩ j) → (3 < (4 : Int) ∨ nilB wh = true) → (4 < (4 : Int) ∨ nilB n = true) → plainB wh.data.toList = true → chk 4 ⟨k, o, i, q, p, c, t, wh, s, n⟩ = 0) :=
      fun a b c d => chk_of (right_tags (by omega) (by omega) hk hk2 (by show wh.size ≤ 16; omega) (by show n.size ≤ 120; omega) a b c d)
    have HT : Hid (∀ j, 1 ≤ j → j ≤ 10 → ¬ okT 4 ⟨k, o, i, q, p, c, t, wh, s, n⟩ j → chk 4 ⟨k, o, i, q, p, c, t, wh, s, n⟩ = 32) := fun j a b c => H32.out fun r => c (okT_of r j a b)
    have hs1' : (wh.size : Int) ≤ 16 := by omega
    have hs2' : (n.size : Int) ≤ 120 := by omega
    have HS1 : Hid (wh.size ≤ 16) := by show _ ≤ _; omega
    have hd3 : decide ((16 : Int) < (wh.size : Int)) = false := by simp; omega
    have hd4 : decide ((120 : Int) < (n.size : Int)) = false := by simp; omega
    have hz3 := HZ.out _ HW3.out
    clear hs1 hs2 hd hd2
    go_wp2_with (go_at_call 76; refine (rnums_any k o i q p c t wh s n _).mono ?_; rintro _ w4 ⟨rfl, hrn, hb4⟩; obtain ⟨m1, m2, m3⟩ := two_new hb4; have HRC : Hid (RC E w3.heap.size 4 ⟨k, o, i, q, p, c, t, wh, s, n⟩ w4) := ⟨HN.out _ _ HW3.out m1, row_of m2, row_of m3, by simpa using hrn⟩; clear m1 m2 m3 hrn hb4 q0 q1 q2 q3 q4 q5 q6 q7 q8 q9 hz3)
    go_loopw [8] (fun vi wr => ∃ j : Nat, 1 ≤ j ∧ j ≤ 11 ∧ vi = .int .i64 j ∧ Hid (RC E w3.heap.size 4 ⟨k, o, i, q, p, c, t, wh, s, n⟩ wr) ∧ Hid (∀ x, 1 ≤ x → x < j → okT 4 ⟨k, o, i, q, p, c, t, wh, s, n⟩ x)) (fun vi _ => 11 - (intOf vi).toNat)
    case atStart => exact ⟨1, by omega, by omega, rfl, HRC, fun x h1 h2 => by omega⟩
    case round =>
      clear HRC
      obtain ⟨j, j1, j2, rfl, HRC, HJ⟩ := hrel
      by_cases hlt : j ≤ 10
      · obtain ⟨x, HX⟩ : ∃ x, Hid ((numL ⟨k, o, i, q, p, c, t, wh, s, n⟩).getD j 0 = x) := ⟨_, rfl⟩
        obtain ⟨l, HL⟩ : ∃ x, Hid ((lowL 4).getD j 0 = x) := ⟨_, rfl⟩
        obtain ⟨h, HH⟩ : ∃ x, Hid ((highL 4).getD j 0 = x) := ⟨_, rfl⟩
        have HO : Hid (okT 4 ⟨k, o, i, q, p, c, t, wh, s, n⟩ j ↔ (8 < j → x = 0) ∧ l ≤ x ∧ x ≤ h) := by show _ ↔ _; unfold okT; rw [HX.out, HL.out, HH.out]; exact Iff.rfl
        have HTJ : Hid (¬ ((8 < j → x = 0) ∧ l ≤ x ∧ x ≤ h) → chk 4 ⟨k, o, i, q, p, c, t, wh, s, n⟩ = 32) := fun hno => HT.out j j1 hlt fun ho => hno (HO.out.1 ho)
        have hj0 : (0 : Int) ≤ (j : Int) := by omega
        have hj1 : (j : Int) < 11 := by omega
        clear HT HALL H32
        by_cases hgt : 8 < j
        · have hgt' : (8 : Int) < (j : Int) := by omega
          by_cases hx0 : x = 0
          · have hx1 : (x != 0) = false := by simpa using hx0
            have HX0 : Hid (x = 0) := hx0
            clear hx0
            by_cases hc : x < l
            · have HR : Hid (chk 4 ⟨k, o, i, q, p, c, t, wh, s, n⟩ = 32) := HTJ.out fun hno => by have := hno.2.1; omega
              have hc1 : decide (x < l) = true := by simpa using hc
              go_wp2_with (go_at_call 77; refine (rhas_any 4 _ (by omega) (by omega)).mono ?_; rw [show ((hasK 4 : Nat) : Int) = 8 from rfl]; rintro _ w5 ⟨rfl, hb5⟩; have HRQ := HRC.out.keep HN.out hb5; clear HRC hb5; have HRC := HRQ; clear HRQ; obtain ⟨cl, ch, cn⟩ := HRC.out.cells j (by omega); rw [HL.out] at cl; rw [HH.out] at ch; rw [HX.out] at cn)
              go_quiet (fail)
              go_wp2
              go_ret
              exact ⟨ret_int HR.out.symm, HB.out _ (HRC.out.drewN HN.out _).out.1⟩
            · have hc1 : decide (x < l) = false := by simp; omega
              by_cases hc2 : h < x
              · have HR : Hid (chk 4 ⟨k, o, i, q, p, c, t, wh, s, n⟩ = 32) := HTJ.out fun hno => by have := hno.2.2; omega
                have hc3 : decide (h < x) = true := by simpa using hc2
                go_wp2_with (go_at_call 77; refine (rhas_any 4 _ (by omega) (by omega)).mono ?_; rw [show ((hasK 4 : Nat) : Int) = 8 from rfl]; rintro _ w5 ⟨rfl, hb5⟩; have HRQ := HRC.out.keep HN.out hb5; clear HRC hb5; have HRC := HRQ; clear HRQ; obtain ⟨cl, ch, cn⟩ := HRC.out.cells j (by omega); rw [HL.out] at cl; rw [HH.out] at ch; rw [HX.out] at cn)
                go_quiet (fail)
                go_wp2
                go_ret
                exact ⟨ret_int HR.out.symm, HB.out _ (HRC.out.drewN HN.out _).out.1⟩
              · have hc3 : decide (h < x) = false := by simp; omega
                have HJ2 : Hid (∀ y, 1 ≤ y → y < j + 1 → okT 4 ⟨k, o, i, q, p, c, t, wh, s, n⟩ y) := fun y y1 y2 => by
                  by_cases hy : y < j
                  · exact HJ.out y y1 hy
                  · rw [show y = j from by omega]; exact HO.out.2 ⟨fun _ => HX0.out, by omega, by omega⟩
                clear HJ
                go_wp2_with (go_at_call 77; refine (rhas_any 4 _ (by omega) (by omega)).mono ?_; rw [show ((hasK 4 : Nat) : Int) = 8 from rfl]; rintro _ w5 ⟨rfl, hb5⟩; have HRQ := HRC.out.keep HN.out hb5; clear HRC hb5; have HRC := HRQ; clear HRQ; obtain ⟨cl, ch, cn⟩ := HRC.out.cells j (by omega); rw [HL.out] at cl; rw [HH.out] at ch; rw [HX.out] at cn)
                go_quiet (fail)
                go_wp2
                go_roundw
                case rel => exact ⟨j + 1, by omega, by omega, by go_num, HRC.out.drewN HN.out _, HJ2⟩
                case measure => simp [intOf]; omega
          · have hx1 : (x != 0) = true := by simpa using hx0
            have HR : Hid (chk 4 ⟨k, o, i, q, p, c, t, wh, s, n⟩ = 32) := HTJ.out fun hno => hx0 (hno.1 hgt)
            clear hx0
            go_wp2_with (go_at_call 77; refine (rhas_any 4 _ (by omega) (by omega)).mono ?_; rw [show ((hasK 4 : Nat) : Int) = 8 from rfl]; rintro _ w5 ⟨rfl, hb5⟩; have HRQ := HRC.out.keep HN.out hb5; clear HRC hb5; have HRC := HRQ; clear HRQ; obtain ⟨cl, ch, cn⟩ := HRC.out.cells j (by omega); rw [HL.out] at cl; rw [HH.out] at ch; rw [HX.out] at cn)
            go_ret
            exact ⟨ret_int HR.out.symm, HB.out _ HRC.out.1⟩
        · have hgt' : (j : Int) ≤ 8 := by omega
          have HX0 : Hid (8 < j → x = 0) := fun h => absurd h hgt
          by_cases hc : x < l
          · have HR : Hid (chk 4 ⟨k, o, i, q, p, c, t, wh, s, n⟩ = 32) := HTJ.out fun hno => by have := hno.2.1; omega
            have hc1 : decide (x < l) = true := by simpa using hc
            go_wp2_with (go_at_call 77; refine (rhas_any 4 _ (by omega) (by omega)).mono ?_; rw [show ((hasK 4 : Nat) : Int) = 8 from rfl]; rintro _ w5 ⟨rfl, hb5⟩; have HRQ := HRC.out.keep HN.out hb5; clear HRC hb5; have HRC := HRQ; clear HRQ; obtain ⟨cl, ch, cn⟩ := HRC.out.cells j (by omega); rw [HL.out] at cl; rw [HH.out] at ch; rw [HX.out] at cn)
            go_quiet (fail)
            go_wp2
            go_ret
            exact ⟨ret_int HR.out.symm, HB.out _ (HRC.out.drewN HN.out _).out.1⟩
          · have hc1 : decide (x < l) = false := by simp; omega
            by_cases hc2 : h < x
            · have HR : Hid (chk 4 ⟨k, o, i, q, p, c, t, wh, s, n⟩ = 32) := HTJ.out fun hno => by have := hno.2.2; omega
              have hc3 : decide (h < x) = true := by simpa using hc2
              go_wp2_with (go_at_call 77; refine (rhas_any 4 _ (by omega) (by omega)).mono ?_; rw [show ((hasK 4 : Nat) : Int) = 8 from rfl]; rintro _ w5 ⟨rfl, hb5⟩; have HRQ := HRC.out.keep HN.out hb5; clear HRC hb5; have HRC := HRQ; clear HRQ; obtain ⟨cl, ch, cn⟩ := HRC.out.cells j (by omega); rw [HL.out] at cl; rw [HH.out] at ch; rw [HX.out] at cn)
              go_quiet (fail)
              go_wp2
              go_ret
              exact ⟨ret_int HR.out.symm, HB.out _ (HRC.out.drewN HN.out _).out.1⟩
            · have hc3 : decide (h < x) = false := by simp; omega
              have HJ2 : Hid (∀ y, 1 ≤ y → y < j + 1 → okT 4 ⟨k, o, i, q, p, c, t, wh, s, n⟩ y) := fun y y1 y2 => by
                by_cases hy : y < j
                · exact HJ.out y y1 hy
                · rw [show y = j from by omega]; exact HO.out.2 ⟨HX0.out, by omega, by omega⟩
              clear HJ
              go_wp2_with (go_at_call 77; refine (rhas_any 4 _ (by omega) (by omega)).mono ?_; rw [show ((hasK 4 : Nat) : Int) = 8 from rfl]; rintro _ w5 ⟨rfl, hb5⟩; have HRQ := HRC.out.keep HN.out hb5; clear HRC hb5; have HRC := HRQ; clear HRQ; obtain ⟨cl, ch, cn⟩ := HRC.out.cells j (by omega); rw [HL.out] at cl; rw [HH.out] at ch; rw [HX.out] at cn)
              go_quiet (fail)
              go_wp2
              go_roundw
              case rel => exact ⟨j + 1, by omega, by omega, by go_num, HRC.out.drewN HN.out _, HJ2⟩
              case measure => simp [intOf]; omega
      · have hj11 : j = 11 := by omega
        subst hj11
        obtain ⟨q0, q1, q2, q3, q4, q5, q6, q7, q8, q9⟩ := R.out _ HRC.out.1
        have HBW := HB.out _ HRC.out.1
        have HBE : Hid (_) := HBW
        have HAL := HALL.out HJ.out
        have HAL2 : Hid (_) := HAL
        clear HBW HAL HRC HALL HT HJ q0 q1 q2 q3 q4 q5 q6 q8
        cases hnn : nilB n with
        | false =>
          have hn1 : n.toList.isEmpty = false := hnn
          have HR : Hid (chk 4 ⟨k, o, i, q, p, c, t, wh, s, n⟩ = 32) := H32.out fun r => by have := r.own4; rcases this with h | h <;> first | omega | (have h2 := h.2; rw [hnn] at h2; cases h2)
          clear HAL2 H32
          go_wp2
          go_ret
          exact ⟨ret_int HR.out.symm, HBE.out⟩
        | true =>
          have hn1 : n.toList.isEmpty = true := hnn
          have HP0 : Hid (plainB wh.data.toList = true → chk 4 ⟨k, o, i, q, p, c, t, wh, s, n⟩ = 0) := fun hp => HAL2.out (.inl (by omega)) (.inr hnn) hp
          have HPN : Hid (plainB wh.data.toList = false → chk 4 ⟨k, o, i, q, p, c, t, wh, s, n⟩ = 32) := fun hp => H32.out fun r => by have := r.plain; rw [hp] at this; cases this
          have HLEN : Hid (wh.data.toList.length = wh.size) := by show _ = _; simp
          clear HAL2 H32
          go_wp2
          go_loop [9] (fun vi => ∃ y : Nat, y ≤ wh.size ∧ vi = .int .i64 y ∧ Hid (plainB (wh.data.toList.take y) = true)) (fun vi => wh.size - (intOf vi).toNat)
          case atStart => exact ⟨0, by omega, rfl, rfl⟩
          case round =>
            obtain ⟨y, hy, rfl, HP⟩ := hrel
            by_cases hlt2 : y < wh.size
            · have HK2 : Hid (y < wh.data.toList.length) := by show _ < _; rw [HLEN.out]; exact hlt2
              have HX2 : Hid (((wh[y].toNat : Nat) : Int) = ((wh.data.toList.getD y 0).toNat : Int)) := by
                show _ = _
                rw [List.getD_eq_getElem?_getD, List.getElem?_eq_getElem HK2.out]
                rfl
              have hx0 : 0 ≤ ((wh[y].toNat : Nat) : Int) ∧ ((wh[y].toNat : Nat) : Int) < 256 := by have := (wh[y]).toNat_lt; omega
              cases ho : okC ((wh[y].toNat : Nat) : Int) with
              | true =>
                have hoc := okC_yes ho
                have HO : Hid (plainB (wh.data.toList.take (y + 1)) = true) := plain_more _ y ((wh[y].toNat : Nat) : Int) HK2.out HX2.out HP.out ho
                clear ho
                rcases hoc with hoc | hoc | hoc
                · obtain ⟨o1, o2⟩ := hoc
                  have e1 : (((wh[y].toNat : Nat) : Int) == 45) = false := by simp; omega
                  have e2 : decide (((wh[y].toNat : Nat) : Int) ≤ 57) = false := by simp; omega
                  go_wp2
                  all_goals first
                    | (go_round
                       case rel => exact ⟨y + 1, by omega, by go_num, HO⟩
                       case measure => simp [intOf]; omega)
                    | (exfalso; clear HBE HN HB HZ R HCK; simp at *; omega)
                · obtain ⟨o1, o2⟩ := hoc
                  have e1 : (((wh[y].toNat : Nat) : Int) == 45) = false := by simp; omega
                  go_wp2
                  all_goals first
                    | (go_round
                       case rel => exact ⟨y + 1, by omega, by go_num, HO⟩
                       case measure => simp [intOf]; omega)
                    | (exfalso; clear HBE HN HB HZ R HCK; simp at *; omega)
                · have e1 : (((wh[y].toNat : Nat) : Int) == 45) = true := by simpa using hoc
                  go_wp2
                  all_goals first
                    | (go_round
                       case rel => exact ⟨y + 1, by omega, by go_num, HO⟩
                       case measure => simp [intOf]; omega)
                    | (exfalso; clear HBE HN HB HZ R HCK; simp at *; omega)
              | false =>
                obtain ⟨hn1, hn2, hn3⟩ := okC_no ho
                have HR : Hid (chk 4 ⟨k, o, i, q, p, c, t, wh, s, n⟩ = 32) := HPN.out (plain_not _ y ((wh[y].toNat : Nat) : Int) HK2.out HX2.out ho)
                have e1 : (((wh[y].toNat : Nat) : Int) == 45) = false := by simpa using hn3
                have hr : ((wh[y].toNat : Nat) : Int) < 48 ∨ (57 < ((wh[y].toNat : Nat) : Int) ∧ ((wh[y].toNat : Nat) : Int) < 97) ∨ 122 < ((wh[y].toNat : Nat) : Int) := by omega
                clear ho hn1 hn2 hn3
                rcases hr with hr | ⟨hr, hr'⟩ | hr
                · have e2 : decide (48 ≤ ((wh[y].toNat : Nat) : Int)) = false := by simp; omega
                  have e3 : decide (97 ≤ ((wh[y].toNat : Nat) : Int)) = false := by simp; omega
                  go_wp2
                  all_goals first
                    | (go_ret; exact ⟨ret_int HR.out.symm, HBE.out⟩)
                    | (exfalso; clear HBE HN HB HZ R HCK; simp at *; omega)
                · have e2 : decide (((wh[y].toNat : Nat) : Int) ≤ 57) = false := by simp; omega
                  have e3 : decide (97 ≤ ((wh[y].toNat : Nat) : Int)) = false := by simp; omega
                  go_wp2
                  all_goals first
                    | (go_ret; exact ⟨ret_int HR.out.symm, HBE.out⟩)
                    | (exfalso; clear HBE HN HB HZ R HCK; simp at *; omega)
                · have e2 : decide (((wh[y].toNat : Nat) : Int) ≤ 57) = false := by simp; omega
                  have e3 : decide (((wh[y].toNat : Nat) : Int) ≤ 122) = false := by simp; omega
                  go_wp2
                  all_goals first
                    | (go_ret; exact ⟨ret_int HR.out.symm, HBE.out⟩)
                    | (exfalso; clear HBE HN HB HZ R HCK; simp at *; omega)
            · have HR : Hid (chk 4 ⟨k, o, i, q, p, c, t, wh, s, n⟩ = 0) := HP0.out (by have := HP.out; rwa [List.take_of_length_le (by rw [HLEN.out]; omega)] at this)
              go_wp2
              go_ret
              exact ⟨ret_int HR.out.symm, HBE.out⟩
end Go.Proofs.YtblfmfanfpohbaaGreat
namespace Go.Proofs.YtblfmfanfpohbaaGreat
open Go.ChangeShapes Go.WideShapes Go.ChangeAt Go.RowKit
theorem rcheck_ev (v : Int) (e : Ev) (w : World) (h : v = 4 := by decide) :
    Calls Tryz.prog 28 #[.int .i64 v, .agg (evA e)] w fun x w' => x = .returned (.int .i64 (chk v e)) ∧ Below w.heap.size w w' := by
  subst h
  exact rcheck4 e.kind e.order e.item e.qty e.price e.cur e.tax e.who e.stamp e.note w
end Go.Proofs.YtblfmfanfpohbaaGreat
namespace Go.Proofs.YtblfmfanfpohbaaGreat
open Go.ChangeShapes Go.WideShapes Go.ChangeAt Go.RowKit
set_option linter.unusedVariables false
set_option linter.unusedSimpArgs false
theorem stcells {w : World} {b : Nat} {s : St} {v : Value} (h : StAt w b s v) : w.cell? ⟨b, 0, none⟩ = some (.int .i64 s.order) ∧ w.cell? ⟨b, 1, none⟩ = some (.int .i64 s.status) ∧ w.cell? ⟨b, 2, none⟩ = some (.int .i64 s.prior) ∧ w.cell? ⟨b, 3, none⟩ = some (.int .i64 s.cur) ∧ w.cell? ⟨b, 4, none⟩ = some (.int .i64 s.tax) ∧ w.cell? ⟨b, 6, none⟩ = some (.int .i64 s.paid) ∧ w.cell? ⟨b, 7, none⟩ = some (.int .i64 s.refunded) ∧ w.cell? ⟨b, 8, none⟩ = some (.int .i64 s.events) ∧ w.cell? ⟨b, 9, none⟩ = some (.int .i64 s.refused) ∧ w.cell? ⟨b, 10, none⟩ = some (.int .i64 s.stamp) ∧ w.cell? ⟨b, 11, none⟩ = some (.string s.who) ∧ w.cell? ⟨b, 5, none⟩ = some v :=
  ⟨h.cell 0 _ rfl, h.cell 1 _ rfl, h.cell 2 _ rfl, h.cell 3 _ rfl, h.cell 4 _ rfl, h.cell 6 _ rfl, h.cell 7 _ rfl, h.cell 8 _ rfl, h.cell 9 _ rfl, h.cell 10 _ rfl, h.cell 11 _ rfl, h.cell 5 _ rfl⟩
theorem who_four (who : ByteArray) : chk 4 (whoE who) = 0 ↔ chk 5 (whoE who) = 0 := by
  constructor
  · intro h
    have r := right_of h
    exact chk_of ⟨by decide, by decide, by show (1 : Int) ≤ 1; decide, by show (1 : Int) ≤ lastK 5; decide, r.who, r.note, r.order0, r.order1, r.item0, r.item1, by show loQ 5 ≤ (0 : Int); decide, r.qty1, r.price0, by show (0 : Int) ≤ hiP 5; decide, r.cur0, r.cur1, r.tax0, r.tax1, r.plain, r.stamp0, r.stamp1, .inl (by decide), .inl (by decide), .inl (by decide), .inl (by decide)⟩
  · intro h
    have r := right_of h
    exact chk_of ⟨by decide, by decide, by show (1 : Int) ≤ 1; decide, by show (1 : Int) ≤ lastK 4; decide, r.who, r.note, r.order0, r.order1, r.item0, r.item1, by show loQ 4 ≤ (0 : Int); decide, r.qty1, r.price0, by show (0 : Int) ≤ hiP 4; decide, r.cur0, r.cur1, r.tax0, r.tax1, r.plain, r.stamp0, r.stamp1, .inl (by decide), .inl (by decide), .inl (by decide), .inr ⟨rfl, (by have h9 : nilB (whoE who).note = true := (by show nilB ⟨#[]⟩ = true; unfold nilB; rw [ByteArray.toList_eq]; rfl); exact h9)⟩⟩
/-- the numbers' bounds -/
abbrev NumOk (s : St) : Prop := 1 ≤ s.order ∧ s.order ≤ 1099511627776 ∧ 0 ≤ s.status ∧ s.status ≤ 5 ∧ 0 ≤ s.cur ∧ s.cur ≤ 3 ∧ 0 ≤ s.tax ∧ s.tax ≤ 5000 ∧ 0 ≤ s.events ∧ s.events ≤ 1099511627776 ∧ 0 ≤ s.refused ∧ s.refused ≤ s.events ∧ 0 ≤ s.stamp ∧ s.stamp ≤ 1099511627776
theorem bndS_iff (s : St) : bndS s = true ↔ NumOk s ∧ chk 4 (whoE s.who) = 0 := by
  rw [who_four]
  simp only [bndS, Bool.and_eq_true, wit_true, whoB, beq_iff_eq]
  constructor
  · rintro ⟨⟨a1, a2⟩, ⟨b1, b2⟩, ⟨c1, c2⟩, ⟨d1, d2⟩, ⟨e1, e2⟩, ⟨f1, f2⟩, ⟨g1, g2⟩, hw⟩
    exact ⟨⟨a1, a2, b1, b2, c1, c2, d1, d2, e1, e2, f1, f2, g1, g2⟩, hw⟩
  · rintro ⟨⟨a1, a2, b1, b2, c1, c2, d1, d2, e1, e2, f1, f2, g1, g2⟩, hw⟩
    exact ⟨⟨a1, a2⟩, ⟨b1, b2⟩, ⟨c1, c2⟩, ⟨d1, d2⟩, ⟨e1, e2⟩, ⟨f1, f2⟩, ⟨g1, g2⟩, hw⟩
theorem vldB_no {s : St} (h : ¬ (bndS s = true ∧ linesB s.lines = true ∧ priorB s = true ∧ wit 0 s.paid (dueS s) = true ∧ wit 0 s.refunded s.paid = true ∧ fitsB s = true)) : vldB s = false := by
  cases hv : vldB s with
  | false => rfl
  | true =>
    simp only [vldB, Bool.and_eq_true] at hv
    exact absurd hv h
theorem vldB_fits {s : St} (h1 : bndS s = true) (h2 : linesB s.lines = true) (h3 : priorB s = true) (h4 : wit 0 s.paid (dueS s) = true) (h5 : wit 0 s.refunded s.paid = true) : vldB s = fitsB s := by
  unfold vldB
  rw [h1, h2, h3, h4, h5]
  rfl
set_option maxRecDepth 20000 in
set_option maxHeartbeats 8000000 in
theorem rvalid_num (s : St) (a : Option Addr) (n cap : Nat) (w : World) (hn : s.lines.length = n) (hl : Lns w a s.lines) (hm : n ≤ maxLen) (h1 : ¬ NumOk s) : Calls Tryz.prog 13 #[.agg (stA s (.slice a n cap))] w fun e w' => e = .returned (.bool false) ∧ Below w.heap.size w w' := by
  have HN : Hid (s.lines.length = n) := hn
  obtain ⟨W, hW⟩ : ∃ W, w.alloc (.cells (stA s (.slice a n cap)) 25) = W := ⟨_, rfl⟩
  have HS := StC.new w s a n cap hl
  rw [hW] at HS
  have HSH : Hid (StC w w.heap.size s a n cap W) := HS
  obtain ⟨c0, c1, c2, c3, c4, c6, c7, c8, c9, c10, c11, c5⟩ := stcells HS.1
  clear hn hl HS
  unfold NumOk at h1
  go_enter Tryz.func13, Tryz.ntmps13
  go_wp2
  all_goals first
    | (exfalso; omega)
    | (go_ret; exact ⟨rfl, HSH.out.2.2⟩)
set_option maxRecDepth 20000 in
set_option maxHeartbeats 8000000 in
theorem rvalid_who (s : St) (a : Option Addr) (n cap : Nat) (w : World) (hn : s.lines.length = n) (hl : Lns w a s.lines) (hm : n ≤ maxLen) (h1 : NumOk s) (h2 : chk 4 (whoE s.who) ≠ 0) : Calls Tryz.prog 13 #[.agg (stA s (.slice a n cap))] w fun e w' => e = .returned (.bool false) ∧ Below w.heap.size w w' := by
  have HN : Hid (s.lines.length = n) := hn
  obtain ⟨W, hW⟩ : ∃ W, w.alloc (.cells (stA s (.slice a n cap)) 25) = W := ⟨_, rfl⟩
  have HS := StC.new w s a n cap hl
  rw [hW] at HS
  have HSH : Hid (StC w w.heap.size s a n cap W) := HS
  obtain ⟨c0, c1, c2, c3, c4, c6, c7, c8, c9, c10, c11, c5⟩ := stcells HS.1
  obtain ⟨q, hq⟩ : ∃ q, chk 4 (whoE s.who) = q := ⟨_, rfl⟩
  have HW4 : Hid (_) := hq
  rw [hq] at h2
  have hqb : (q != 0) = true := by simpa using h2
  obtain ⟨a1, a2, b1, b2, e1, e2, f1, f2, g1, g2, i1, i2, j1, j2⟩ := h1
  clear hn hl HS hq h2
  go_enter Tryz.func13, Tryz.ntmps13
  go_wp2_with (first
    | (go_at_call 28; refine (rcheck_ev 4 (whoE s.who) _).mono ?_; rw [HW4.out]; rintro _ x1 ⟨rfl, hb1⟩; have HC1 : Hid (StC w w.heap.size s a n cap x1) := StC.keep HSH.out hb1; obtain ⟨d0, d1, d2, d3, d4, d6, d7, d8, d9, d10, d11, d5⟩ := stcells (StC.keep HSH.out hb1).1; clear hb1))
  go_ret
  exact ⟨rfl, HC1.out.2.2⟩
set_option maxRecDepth 20000 in
set_option maxHeartbeats 8000000 in
theorem rvalid_lines (s : St) (a : Option Addr) (n cap : Nat) (w : World) (hn : s.lines.length = n) (hl : Lns w a s.lines) (hm : n ≤ maxLen) (h1 : NumOk s) (h2 : chk 4 (whoE s.who) = 0) (h3 : linesB s.lines = false) : Calls Tryz.prog 13 #[.agg (stA s (.slice a n cap))] w fun e w' => e = .returned (.bool false) ∧ Below w.heap.size w w' := by
  have HN : Hid (s.lines.length = n) := hn
  obtain ⟨W, hW⟩ : ∃ W, w.alloc (.cells (stA s (.slice a n cap)) 25) = W := ⟨_, rfl⟩
  have HS := StC.new w s a n cap hl
  rw [hW] at HS
  have HSH : Hid (StC w w.heap.size s a n cap W) := HS
  obtain ⟨c0, c1, c2, c3, c4, c6, c7, c8, c9, c10, c11, c5⟩ := stcells HS.1
  have HW4 : Hid (_) := h2
  have HLB : Hid (_) := h3
  obtain ⟨a1, a2, b1, b2, e1, e2, f1, f2, g1, g2, i1, i2, j1, j2⟩ := h1
  clear hn hl HS h2 h3
  go_enter Tryz.func13, Tryz.ntmps13
  go_wp2_with (first
    | (go_at_call 28; refine (rcheck_ev 4 (whoE s.who) _).mono ?_; rw [HW4.out]; rintro _ x1 ⟨rfl, hb1⟩; have HC1 : Hid (StC w w.heap.size s a n cap x1) := StC.keep HSH.out hb1; obtain ⟨d0, d1, d2, d3, d4, d6, d7, d8, d9, d10, d11, d5⟩ := stcells (StC.keep HSH.out hb1).1; clear hb1)
    | ((with_reducible refine guard_loadg 25 ?_); refine wpList_load_stg rfl _ rfl HC1.out.1 rfl ?_)
    | (go_at_call 29; refine (rlines_any s a n cap _ HN.out HC1.out.2.1 hm).mono ?_; rw [HLB.out]; rintro _ x2 ⟨rfl, hb2⟩; have HC2 : Hid (StC w w.heap.size s a n cap x2) := StC.keep HC1.out hb2; clear hb2))
  go_ret
  exact ⟨rfl, HC2.out.2.2⟩
set_option maxRecDepth 20000 in
set_option maxHeartbeats 8000000 in
theorem rvalid_money (s : St) (a : Option Addr) (n cap : Nat) (w : World) (hn : s.lines.length = n) (hl : Lns w a s.lines) (hm : n ≤ maxLen) (h1 : NumOk s) (h2 : chk 4 (whoE s.who) = 0) (h3 : linesB s.lines = true) (h4 : ¬ (0 ≤ s.refunded ∧ s.refunded ≤ s.paid ∧ 0 ≤ s.paid ∧ s.paid ≤ dueS s)) : Calls Tryz.prog 13 #[.agg (stA s (.slice a n cap))] w fun e w' => e = .returned (.bool false) ∧ Below w.heap.size w w' := by
  have HN : Hid (s.lines.length = n) := hn
  obtain ⟨W, hW⟩ : ∃ W, w.alloc (.cells (stA s (.slice a n cap)) 25) = W := ⟨_, rfl⟩
  have HS := StC.new w s a n cap hl
  rw [hW] at HS
  have HSH : Hid (StC w w.heap.size s a n cap W) := HS
  obtain ⟨c0, c1, c2, c3, c4, c6, c7, c8, c9, c10, c11, c5⟩ := stcells HS.1
  have HW4 : Hid (_) := h2
  have HLB : Hid (_) := h3
  obtain ⟨a1, a2, b1, b2, e1, e2, f1, f2, g1, g2, i1, i2, j1, j2⟩ := h1
  obtain ⟨E, hE⟩ : ∃ E, StC w w.heap.size s a n cap = E := ⟨_, rfl⟩
  have R : Hid (∀ w2, E w2 → w2.cell? ⟨w.heap.size, 6, none⟩ = some (.int .i64 s.paid) ∧ w2.cell? ⟨w.heap.size, 7, none⟩ = some (.int .i64 s.refunded)) := fun w2 h => by rw [← hE] at h; exact ⟨h.1.cell 6 _ rfl, h.1.cell 7 _ rfl⟩
  have RS : Hid (∀ w2, E w2 → StAt w2 w.heap.size s (.slice a n cap)) := fun w2 h => by rw [← hE] at h; exact h.1
  have HBel : Hid (∀ w2, E w2 → Below w.heap.size w w2) := fun w2 h => by rw [← hE] at h; exact h.2.2
  have HLn : Hid (∀ w2, E w2 → Lns w2 a s.lines) := fun w2 h => by rw [← hE] at h; exact h.2.1
  have HK : Hid (∀ w1 w2, E w1 → Below w1.heap.size w1 w2 → E w2) := fun w1 w2 h h2 => by rw [← hE] at h ⊢; exact h.keep h2
  have HEi : Hid (∀ w2, StC w w.heap.size s a n cap w2 → E w2) := fun w2 h => by rw [← hE]; exact h
  obtain ⟨D, hD⟩ : ∃ D, dueS s = D := ⟨_, rfl⟩
  have CD : Hid (∀ w2, E w2 → Calls Tryz.prog 16 #[.agg (stA s (.slice a n cap))] w2 fun e w' => e = .returned (.int .i64 D) ∧ E w') := fun w2 h => (rdue_any s a n cap w2 hn (HLn.out w2 h) h3 f1 f2).mono fun e w' ⟨k1, k2⟩ => ⟨by rw [← hD]; exact k1, HK.out _ _ h k2⟩
  rw [hD] at h4
  clear hn hl HS h2 h3 hE hD
  by_cases t1 : s.refunded < 0
  · have gt1 : decide (s.refunded < 0) = true := decide_eq_true t1
    go_enter Tryz.func13, Tryz.ntmps13
    go_wp2_with (first
      | (go_at_call 28; refine (rcheck_ev 4 (whoE s.who) _).mono ?_; rw [HW4.out]; rintro _ x1 ⟨rfl, hb1⟩; have HC1 : Hid (StC w w.heap.size s a n cap x1) := StC.keep HSH.out hb1; obtain ⟨d0, d1, d2, d3, d4, d6, d7, d8, d9, d10, d11, d5⟩ := stcells (StC.keep HSH.out hb1).1; clear hb1)
      | ((with_reducible refine guard_loadg 25 ?_); refine wpList_load_stg rfl _ rfl HC1.out.1 rfl ?_)
      | (go_at_call 29; refine (rlines_any s a n cap _ HN.out HC1.out.2.1 hm).mono ?_; rw [HLB.out]; rintro _ x2 ⟨rfl, hb2⟩; have HC2 : Hid (StC w w.heap.size s a n cap x2) := StC.keep HC1.out hb2; clear hb2))
    refine wp_region_quiet (C := E) (by kernel_rfl) (by kernel_rfl) (HK.out x2 _ (HEi.out _ HC2.out) (Below.refl _ _).drew) ?_
    simp only [List.toList_toArray]
    repeat (any_goals (first
      | go_big_quiet_skip
      | (go_big_quiet_want
         first
         | (refine quiet_val (v := .agg (stA s (.slice a n cap))) (fun w2 hw2 => exec_load_st (.tmp 1) rfl rfl (RS.out w2 hw2)) ?_
            go_big_quiet_on; simp only [Act.put, List.setIfInBounds_toArray, List.set_cons_zero, List.set_cons_succ])
         | (refine quiet_val (v := ?_) (fun w2 hw2 => ?_) ?_
            rotate_left
            · (first | (go_simp; with_reducible rfl) | (obtain ⟨q1, q2⟩ := R.out w2 hw2; go_simp; with_reducible rfl))
            go_big_quiet_on; simp only [Act.put, List.setIfInBounds_toArray, List.set_cons_zero, List.set_cons_succ])
         | (refine quiet_call (v := ?_) (f := ?_) (args := ?_) (fun w2 hw2 => ?_) (fun w2 hw2 => ?_) ?_
            rotate_left 3
            · (go_simp; refine ⟨?_, ?_⟩ <;> with_reducible rfl)
            · exact CD.out _ hw2
            (go_big_quiet_on; simp only [Act.put, List.setIfInBounds_toArray, List.set_cons_zero, List.set_cons_succ])))))
    all_goals
      refine wpQuiet_nil ?_
      intro w3 hw3
      go_wp2
      go_ret
      exact ⟨rfl, HBel.out _ hw3⟩
  · have gt1 : decide (s.refunded < 0) = false := decide_eq_false t1
    by_cases t2 : s.paid < s.refunded
    · have gt2 : decide (s.paid < s.refunded) = true := decide_eq_true t2
      go_enter Tryz.func13, Tryz.ntmps13
      go_wp2_with (first
        | (go_at_call 28; refine (rcheck_ev 4 (whoE s.who) _).mono ?_; rw [HW4.out]; rintro _ x1 ⟨rfl, hb1⟩; have HC1 : Hid (StC w w.heap.size s a n cap x1) := StC.keep HSH.out hb1; obtain ⟨d0, d1, d2, d3, d4, d6, d7, d8, d9, d10, d11, d5⟩ := stcells (StC.keep HSH.out hb1).1; clear hb1)
        | ((with_reducible refine guard_loadg 25 ?_); refine wpList_load_stg rfl _ rfl HC1.out.1 rfl ?_)
        | (go_at_call 29; refine (rlines_any s a n cap _ HN.out HC1.out.2.1 hm).mono ?_; rw [HLB.out]; rintro _ x2 ⟨rfl, hb2⟩; have HC2 : Hid (StC w w.heap.size s a n cap x2) := StC.keep HC1.out hb2; clear hb2))
      refine wp_region_quiet (C := E) (by kernel_rfl) (by kernel_rfl) (HK.out x2 _ (HEi.out _ HC2.out) (Below.refl _ _).drew) ?_
      simp only [List.toList_toArray]
      repeat (any_goals (first
        | go_big_quiet_skip
        | (go_big_quiet_want
           first
           | (refine quiet_val (v := .agg (stA s (.slice a n cap))) (fun w2 hw2 => exec_load_st (.tmp 1) rfl rfl (RS.out w2 hw2)) ?_
              go_big_quiet_on; simp only [Act.put, List.setIfInBounds_toArray, List.set_cons_zero, List.set_cons_succ])
           | (refine quiet_val (v := ?_) (fun w2 hw2 => ?_) ?_
              rotate_left
              · (first | (go_simp; with_reducible rfl) | (obtain ⟨q1, q2⟩ := R.out w2 hw2; go_simp; with_reducible rfl))
              go_big_quiet_on; simp only [Act.put, List.setIfInBounds_toArray, List.set_cons_zero, List.set_cons_succ])
           | (refine quiet_call (v := ?_) (f := ?_) (args := ?_) (fun w2 hw2 => ?_) (fun w2 hw2 => ?_) ?_
              rotate_left 3
              · (go_simp; refine ⟨?_, ?_⟩ <;> with_reducible rfl)
              · exact CD.out _ hw2
              (go_big_quiet_on; simp only [Act.put, List.setIfInBounds_toArray, List.set_cons_zero, List.set_cons_succ])))))
      all_goals
        refine wpQuiet_nil ?_
        intro w3 hw3
        go_wp2
        go_ret
        exact ⟨rfl, HBel.out _ hw3⟩
    · have gt2 : decide (s.paid < s.refunded) = false := decide_eq_false t2
      have gt3 : decide (s.paid < 0) = false := decide_eq_false (by omega)
      by_cases t4 : D < s.paid
      · have gt4 : decide (D < s.paid) = true := decide_eq_true t4
        go_enter Tryz.func13, Tryz.ntmps13
        go_wp2_with (first
          | (go_at_call 28; refine (rcheck_ev 4 (whoE s.who) _).mono ?_; rw [HW4.out]; rintro _ x1 ⟨rfl, hb1⟩; have HC1 : Hid (StC w w.heap.size s a n cap x1) := StC.keep HSH.out hb1; obtain ⟨d0, d1, d2, d3, d4, d6, d7, d8, d9, d10, d11, d5⟩ := stcells (StC.keep HSH.out hb1).1; clear hb1)
          | ((with_reducible refine guard_loadg 25 ?_); refine wpList_load_stg rfl _ rfl HC1.out.1 rfl ?_)
          | (go_at_call 29; refine (rlines_any s a n cap _ HN.out HC1.out.2.1 hm).mono ?_; rw [HLB.out]; rintro _ x2 ⟨rfl, hb2⟩; have HC2 : Hid (StC w w.heap.size s a n cap x2) := StC.keep HC1.out hb2; clear hb2))
        refine wp_region_quiet (C := E) (by kernel_rfl) (by kernel_rfl) (HK.out x2 _ (HEi.out _ HC2.out) (Below.refl _ _).drew) ?_
        simp only [List.toList_toArray]
        repeat (any_goals (first
          | go_big_quiet_skip
          | (go_big_quiet_want
             first
             | (refine quiet_val (v := .agg (stA s (.slice a n cap))) (fun w2 hw2 => exec_load_st (.tmp 1) rfl rfl (RS.out w2 hw2)) ?_
                go_big_quiet_on; simp only [Act.put, List.setIfInBounds_toArray, List.set_cons_zero, List.set_cons_succ])
             | (refine quiet_val (v := ?_) (fun w2 hw2 => ?_) ?_
                rotate_left
                · (first | (go_simp; with_reducible rfl) | (obtain ⟨q1, q2⟩ := R.out w2 hw2; go_simp; with_reducible rfl))
                go_big_quiet_on; simp only [Act.put, List.setIfInBounds_toArray, List.set_cons_zero, List.set_cons_succ])
             | (refine quiet_call (v := ?_) (f := ?_) (args := ?_) (fun w2 hw2 => ?_) (fun w2 hw2 => ?_) ?_
                rotate_left 3
                · (go_simp; refine ⟨?_, ?_⟩ <;> with_reducible rfl)
                · exact CD.out _ hw2
                (go_big_quiet_on; simp only [Act.put, List.setIfInBounds_toArray, List.set_cons_zero, List.set_cons_succ])))))
        all_goals
          refine wpQuiet_nil ?_
          intro w3 hw3
          go_wp2
          go_ret
          exact ⟨rfl, HBel.out _ hw3⟩
      · have gt4 : decide (D < s.paid) = false := decide_eq_false t4
        exact absurd ⟨by omega, by omega, by omega, by omega⟩ h4
theorem fitc {F U P W b0 b1 b2 b3 b4 b5 b6 r : Bool} {k : Int} (h : F = if k = 0 then (b0 && (b1 && (b2 && (b3 && (b4 && (b5 && b6)))))) else if k = 1 then U && (r && !P) else if k = 3 then P && !W else if k = 4 then P && W else U) :
    (k = 0 ∧ b0 = false ∧ F = false) ∨ (k = 0 ∧ b0 = true ∧ b1 = false ∧ F = false) ∨ (k = 0 ∧ b0 = true ∧ b1 = true ∧ b2 = false ∧ F = false) ∨ (k = 0 ∧ b0 = true ∧ b1 = true ∧ b2 = true ∧ b3 = false ∧ F = false) ∨ (k = 0 ∧ b0 = true ∧ b1 = true ∧ b2 = true ∧ b3 = true ∧ b4 = false ∧ F = false) ∨ (k = 0 ∧ b0 = true ∧ b1 = true ∧ b2 = true ∧ b3 = true ∧ b4 = true ∧ b5 = false ∧ F = false) ∨ (k = 0 ∧ b0 = true ∧ b1 = true ∧ b2 = true ∧ b3 = true ∧ b4 = true ∧ b5 = true ∧ F = b6) ∨ (k = 1 ∧ U = false ∧ F = false) ∨ (k = 1 ∧ U = true ∧ r = false ∧ F = false) ∨ (k = 1 ∧ U = true ∧ r = true ∧ F = !P) ∨ (k = 3 ∧ F = (P && !W)) ∨ (k = 4 ∧ F = (P && W)) ∨ ((k == 0) = false ∧ (k == 1) = false ∧ (k == 3) = false ∧ (k == 4) = false ∧ F = U) := by
  by_cases k0 : k = 0
  · subst k0
    rw [if_pos rfl] at h
    cases b0 <;> cases b1 <;> cases b2 <;> cases b3 <;> cases b4 <;> cases b5 <;> simp_all
  · rw [if_neg k0] at h
    by_cases k1 : k = 1
    · subst k1
      rw [if_pos rfl] at h
      cases U <;> cases r <;> simp_all
    · rw [if_neg k1] at h
      by_cases k3 : k = 3
      · subst k3
        rw [if_pos rfl] at h
        simp_all
      · rw [if_neg k3] at h
        by_cases k4 : k = 4
        · subst k4
          rw [if_pos rfl] at h
          simp_all
        · rw [if_neg k4] at h
          simp_all
end Go.Proofs.YtblfmfanfpohbaaGreat
