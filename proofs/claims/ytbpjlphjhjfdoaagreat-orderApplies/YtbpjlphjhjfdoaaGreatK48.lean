/- Own texts, joined: Rmd, Rv1. -/
import Derived.Test.YtbpjlphjhjfdoaaGreatK47
import Derived.Test.YtbpjlphjhjfdoaaGreatK14
import Derived.Test.YtbpjlphjhjfdoaaGreatK00
import Derived.Deep.QuietTactic
import Derived.BigQuiet
namespace Go.Proofs.YtbpjlphjhjfdoaaGreat.rmd
open Go.ChangeShapes Go.WideShapes Go.ChangeAt Go.RowKit
theorem sgn_times {s t : Bool} {A B C A' B' : Nat} (h : C = A' * B') (e1 : A = A') (e2 : B = B') : sgn (s != t) C = sgn s A * sgn t B := by
  subst h e1 e2
  cases s <;> cases t <;> simp [sgn, Int.neg_mul, Int.mul_neg]
theorem times_is (v u : Value) (L M : Int) (w : World) (hv : IsL v L) (hu : IsL u M) (hL : L.natAbs < 65536 ^ 8) (hM : M.natAbs < 65536 ^ 8) :
    Calls Tryz.prog 71 #[v, u] w fun e w' => ∃ r, e = .returned r ∧ IsL r (L * M) ∧ Below w.heap.size w w' := by
  obtain ⟨s, x, rfl, hx, rfl⟩ := hv
  obtain ⟨t, y, rfl, hy, rfl⟩ := hu
  rw [sgn_abs] at hL hM
  refine (times_any s t x y w hx hy).mono ?_
  rintro e w' ⟨z, rfl, hz, hV, hb⟩
  refine ⟨_, rfl, ⟨_, z, rfl, hz, ?_⟩, hb⟩
  have e1 := Tm.low hL
  have e2 := Tm.low hM
  exact sgn_times hV e1 e2
theorem small (a : Int) (h : inI a) : a.natAbs < 65536 ^ 8 := by
  have h9 : (2 : Nat) ^ 64 ≤ 65536 ^ 8 := by decide
  unfold inI at h
  have : a.natAbs < 2 ^ 64 := by omega
  exact Nat.lt_of_lt_of_le this h9
theorem sgn_neg {s : Bool} {n : Nat} (h : 0 < n) : decide (sgn s n < 0) = s := by
  unfold sgn
  cases s <;> simp <;> omega
theorem sgn_nought (s t : Bool) : sgn s 0 = sgn t 0 := by cases s <;> cases t <;> rfl
theorem quo_sgn {s t : Bool} {A B : Nat} (hB : 0 < B) : sgn (s != t) (A / B) = sgn (decide (sgn s A < 0) != decide (sgn t B < 0)) ((sgn s A).natAbs / (sgn t B).natAbs) := by
  rw [sgn_abs, sgn_abs, sgn_neg hB]
  rcases Nat.eq_zero_or_pos A with rfl | hA
  · rw [Nat.zero_div]; exact sgn_nought _ _
  · rw [sgn_neg hA]
theorem over_is (v u : Value) (L M : Int) (w : World) (hv : IsL v L) (hu : IsL u M) (hM0 : M ≠ 0) (hM : M.natAbs < 65536 ^ 8) :
    Calls Tryz.prog 70 #[v, u] w fun e w' => ∃ s q t r, e = .returned (.tuple #[.agg (LA s q), .agg (LA t r)]) ∧ IsL (.agg (LA s q)) (sgn (decide (L < 0) != decide (M < 0)) (L.natAbs / M.natAbs)) ∧ Below w.heap.size w w' := by
  obtain ⟨s, x, rfl, hx, rfl⟩ := hv
  obtain ⟨t, y, rfl, hy, rfl⟩ := hu
  obtain ⟨A, hA⟩ : ∃ A, V x 16 = A := ⟨_, rfl⟩
  obtain ⟨B, hB⟩ : ∃ B, V y 16 = B := ⟨_, rfl⟩
  rw [hB, sgn_abs] at hM
  rw [hB] at hM0
  have hB0 : 0 < B := by
    rcases Nat.eq_zero_or_pos B with h | h
    · exfalso; apply hM0; rw [h]; cases t <;> rfl
    · exact h
  have hB1 : B < 65536 ^ 15 := Nat.lt_of_lt_of_le hM (Nat.pow_le_pow_right (by omega) (by omega))
  refine (over_any s t x y A B w hx hy hA hB hB0 hB1).mono ?_
  rintro e w' ⟨q, r, rfl, hq, hr, hVq, hVr, hb⟩
  refine ⟨_, q, _, r, rfl, ⟨_, q, rfl, hq, ?_⟩, hb⟩
  rw [hA, hB, ← quo_sgn hB0, hVq]
theorem mdq_eq (a b d : Int) : sgn (decide (a * b < 0) != decide (d < 0)) ((a * b).natAbs / d.natAbs) = mdq a b d := by
  unfold mdq
  rw [Int.natAbs_mul]
  rcases Nat.eq_zero_or_pos (a.natAbs * b.natAbs) with h | h
  · rw [h, Nat.zero_div]; exact sgn_nought _ _
  · have : decide (a * b < 0) = (decide (a < 0) != decide (b < 0)) := by
      rw [sgn_mul a b]; exact sgn_neg h
    rw [this]
set_option maxRecDepth 20000 in
set_option maxHeartbeats 2000000 in
theorem rmd_any (a b d : Int) (w : World) (h0 : Hid (inI a)) (h2 : Hid (inI b)) (h4 : Hid (inI d)) :
    Calls Tryz.prog 32 #[.int .i64 a, .int .i64 b, .int .i64 d] w fun e w' => e = .returned (.tuple #[.int .i64 (mdV a b d), .bool (mdB a b d)]) ∧ Below w.heap.size w w' := by
  by_cases hd : d = 0
  · subst hd
    have E3 : Hid (mdV a b 0 = 0 ∧ mdB a b 0 = false) := ⟨rfl, rfl⟩
    go_enter Tryz.func32, Tryz.ntmps32
    go_wp2
    go_ret2
    exact ⟨ret_ib E3.out.1.symm E3.out.2.symm, Below.refl _ _⟩
  · have hdb : (d == 0) = false := by simpa using hd
    have HD : Hid (d ≠ 0) := hd
    have HV : Hid (fitV (mdq a b d) = mdV a b d ∧ fitB (mdq a b d) = mdB a b d) := by show _ ∧ _; unfold mdV mdB; rw [if_neg hd, if_neg hd]; exact ⟨rfl, rfl⟩
    obtain ⟨p, Ep⟩ : ∃ p, Hid (mdV a b d = p) := ⟨_, rfl⟩
    obtain ⟨pb, Epb⟩ : ∃ p, Hid (mdB a b d = p) := ⟨_, rfl⟩
    rw [Ep.out, Epb.out]
    clear hd
    go_enter Tryz.func32, Tryz.ntmps32
    go_wp2_with (first
      | (go_at_call_of 72 (a); refine (of_is a w h0.out).mono ?_; rintro e w1 ⟨ra, rfl, hra, hb1⟩; have HRA : Hid (IsL ra a) := hra; have HB1 : Hid (Below w.heap.size w w1) := hb1; clear hra hb1)
      | (go_at_call_of 72 (b); refine (of_is b w1 h2.out).mono ?_; rintro e w2 ⟨rb, rfl, hrb, hb2⟩; have HRB : Hid (IsL rb b) := hrb; have HB2 : Hid (Below w.heap.size w w2) := bnx HB1.out hb2; clear hrb hb2)
      | (go_at_call 71; refine (times_is ra rb a b w2 HRA.out HRB.out (small a h0.out) (small b h2.out)).mono ?_; rintro e w3 ⟨rp, rfl, hrp, hb3⟩; have HRP : Hid (IsL rp (a * b)) := hrp; have HB3 : Hid (Below w.heap.size w w3) := bnx HB2.out hb3; clear hrp hb3)
      | (go_at_call_of 72 (d); refine (of_is d w3 h4.out).mono ?_; rintro e w4 ⟨rd, rfl, hrd, hb4⟩; have HRD : Hid (IsL rd d) := hrd; have HB4 : Hid (Below w.heap.size w w4) := bnx HB3.out hb4; clear hrd hb4)
      | (go_at_call 70; refine (over_is rp rd (a * b) d w4 HRP.out HRD.out HD.out (small d h4.out)).mono ?_; rw [mdq_eq]; rintro e w5 ⟨s, q, t, r, rfl, hq, hb5⟩; have HQ : Hid (IsL (.agg (LA s q)) (mdq a b d)) := hq; have HB5 : Hid (Below w.heap.size w w5) := bnx HB4.out hb5; clear hq hb5)
      | ((with_reducible refine guard_store 79 ?_); first | (refine wpList_store_longO rfl _ _ rfl (lay2z w5 #[Value.bool false, Value.int .u64 0, Value.int .u64 0, Value.int .u64 0, Value.int .u64 0, Value.int .u64 0, Value.int .u64 0, Value.int .u64 0, Value.int .u64 0, Value.int .u64 0, Value.int .u64 0, Value.int .u64 0, Value.int .u64 0, Value.int .u64 0, Value.int .u64 0, Value.int .u64 0, Value.int .u64 0] rfl).1 rfl rfl ?_; intro w6 hL6 hO6 hB6; have H6 : Hid (LongAt w6 w5.heap.size s q ∧ LongAt w6 (w5.heap.size + 1) false (fun _ => 0) ∧ Below w5.heap.size w5 w6) := ⟨hL6, hO6 _ _ _ (by omega) (lay2z w5 #[Value.bool false, Value.int .u64 0, Value.int .u64 0, Value.int .u64 0, Value.int .u64 0, Value.int .u64 0, Value.int .u64 0, Value.int .u64 0, Value.int .u64 0, Value.int .u64 0, Value.int .u64 0, Value.int .u64 0, Value.int .u64 0, Value.int .u64 0, Value.int .u64 0, Value.int .u64 0, Value.int .u64 0] rfl).2.1, hB6 _ _ (lay2z w5 #[Value.bool false, Value.int .u64 0, Value.int .u64 0, Value.int .u64 0, Value.int .u64 0, Value.int .u64 0, Value.int .u64 0, Value.int .u64 0, Value.int .u64 0, Value.int .u64 0, Value.int .u64 0, Value.int .u64 0, Value.int .u64 0, Value.int .u64 0, Value.int .u64 0, Value.int .u64 0, Value.int .u64 0] rfl).2.2 (Nat.le_refl _)⟩; clear hL6 hO6 hB6) | (refine wpList_store_longO rfl _ _ rfl H6.out.2.1 rfl rfl ?_; intro w7 hL7 hO7 hB7; have H7 : Hid (LongAt w7 w5.heap.size s q ∧ Below w.heap.size w w7) := ⟨hO7 _ _ _ (by omega) H6.out.1, bnx HB5.out (hB7 _ _ H6.out.2.2 (by omega))⟩; clear hL7 hO7 hB7))
      | ((with_reducible refine guard_load 79 ?_); refine wpList_load_long rfl _ rfl H7.out.1 rfl ?_)
      | (go_at_call 73; refine (fits_is _ _ w7 HQ.out).mono ?_; rw [HV.out.1, HV.out.2, Ep.out, Epb.out]; rintro e w8 ⟨rfl, hb8⟩; have HB8 : Hid (Below w.heap.size w w8) := bnx H7.out.2 hb8; clear hb8))
    go_ret2
    exact ⟨rfl, HB8.out⟩
end Go.Proofs.YtbpjlphjhjfdoaaGreat.rmd
namespace Go.Proofs.YtbpjlphjhjfdoaaGreat
open Go.ChangeShapes Go.WideShapes Go.ChangeAt Go.RowKit
set_option linter.unusedVariables false
set_option linter.unusedSimpArgs false
theorem StC.drewN {w x : World} {b : Nat} {s : St} {a : Option Addr} {n cap : Nat} (h : StC w b s a n cap x) (k : Nat) : StC w b s a n cap (x.drewN k) := by
  induction k with
  | zero => exact h
  | succ k ih => exact StC.drew ih
set_option maxRecDepth 20000 in
set_option maxHeartbeats 2000000 in
theorem rnet_any (s : St) (a : Option Addr) (n cap : Nat) (w : World) (hn : s.lines.length = n) (hl : Lns w a s.lines) (hb : linesB s.lines = true) :
    Calls Tryz.prog 33 #[.agg (stA s (.slice a n cap))] w fun e w' => e = .returned (.int .i64 (net s.lines)) ∧ Below w.heap.size w w' := by
  have HN : Hid (s.lines.length = n) := hn
  have HB : Hid (linesB s.lines = true) := hb
  have hn16 : n ≤ 16 := by rw [← hn]; exact (linesB_facts hb).1
  obtain ⟨W, hW⟩ : ∃ W, w.alloc (.cells (stA s (.slice a n cap)) 25) = W := ⟨_, rfl⟩
  have HS := StC.new w s a n cap hl
  rw [hW] at HS
  have HSH : Hid (StC w w.heap.size s a n cap W) := HS
  have c5 : W.cell? ⟨w.heap.size, 5, none⟩ = some (.slice a n cap) := HS.1.cell 5 _ rfl
  clear hn hb hl HS
  go_enter Tryz.func33, Tryz.ntmps33
  go_wp2
  go_loopw [3, 8] (fun vs vi wr => ∃ (k n0 : Nat) (S : Int), k ≤ n ∧ vs = .int .i64 S ∧ vi = .int .i64 k ∧ wr = W.drewN n0 ∧ Hid (S = net (s.lines.take k))) (fun _ vi _ => n - (intOf vi).toNat)
  case atStart => exact ⟨0, 0, 0, Nat.zero_le _, rfl, rfl, rfl, by show (0 : Int) = net (s.lines.take 0); simp [net]⟩
  case round =>
    obtain ⟨k, n0, S, hk, rfl, rfl, rfl, HI⟩ := hrel
    by_cases hkn : k < n
    · obtain ⟨p, hp⟩ := ln_get (L := s.lines) (k := k) (by rw [HN.out]; exact hkn)
      obtain ⟨b, off, rfl, hlt, q0, q1, q2, q3⟩ := HSH.out.2.1.cells k p hp
      have f := (linesB_facts HB.out).2 k p hp
      obtain ⟨b1, b2⟩ := worth_bound (q := p.qty) (p := p.price) (by omega) (by omega) (by omega) (by omega)
      have t1 := net_take HB.out k (by rw [HN.out]; omega)
      have e1 : net (s.lines.take (k + 1)) = S + p.qty * p.price := by rw [ln_take _ _ _ hp, net_append, HI.out]; simp [net]
      obtain ⟨Wt, hWt⟩ : ∃ W, p.qty * p.price = W := ⟨_, rfl⟩
      rw [hWt] at b1 b2 e1
      have hww : wrap64 (p.qty * p.price) = Wt := by rw [hWt]; exact wrap64_in (by omega) (by omega)
      have hS0 : 0 ≤ S := by rw [HI.out]; exact t1.1
      have hS1 : S ≤ 160000000000000 := by rw [HI.out]; omega
      have hsw : wrap64 (S + Wt) = S + Wt := wrap64_in (by omega) (by omega)
      have HE : Hid (S + Wt = net (s.lines.take (k + 1))) := e1.symm
      clear f t1 e1 hWt hp
      go_wp2
      go_quiet (fail)
      go_wp2
      go_roundw
      case rel => exact ⟨k + 1, n0 + nq, S + Wt, by omega, by go_num, by go_num, by first | rfl | exact drewN_add _ _ _, HE.out⟩
      case measure => simp [intOf]; omega
    · obtain rfl : k = n := by omega
      have HT : Hid (S = net s.lines) := by have h := HI.out; rw [List.take_of_length_le (by rw [HN.out]; omega)] at h; exact h
      go_wp2
      go_ret
      exact ⟨ret_int (by rw [← HT.out]), (StC.drewN HSH.out _).2.2⟩
set_option maxRecDepth 20000 in
set_option maxHeartbeats 2000000 in
theorem runt_any (s : St) (a : Option Addr) (n cap : Nat) (w : World) (hn : s.lines.length = n) (hl : Lns w a s.lines) (hm : n ≤ maxLen) :
    Calls Tryz.prog 66 #[.agg (stA s (.slice a n cap))] w fun e w' => e = .returned (.bool (unshB s.lines)) ∧ Below w.heap.size w w' := by
  have HN : Hid (s.lines.length = n) := hn
  unfold maxLen at hm
  obtain ⟨W, hW⟩ : ∃ W, w.alloc (.cells (stA s (.slice a n cap)) 25) = W := ⟨_, rfl⟩
  have HS := StC.new w s a n cap hl
  rw [hW] at HS
  have HSH : Hid (StC w w.heap.size s a n cap W) := HS
  have c5 : W.cell? ⟨w.heap.size, 5, none⟩ = some (.slice a n cap) := HS.1.cell 5 _ rfl
  clear hn hl HS
  go_enter Tryz.func66, Tryz.ntmps66
  go_wp2
  go_loopw [7] (fun vi wr => ∃ (k n0 : Nat), k ≤ n ∧ vi = .int .i64 k ∧ wr = W.drewN n0 ∧ Hid (unshB s.lines = (s.lines.drop k).all (fun l => decide (l.shipped ≤ 0)))) (fun vi _ => n - (intOf vi).toNat)
  case atStart => exact ⟨0, 0, Nat.zero_le _, rfl, rfl, rfl⟩
  case round =>
    obtain ⟨k, n0, hk, rfl, rfl, HI⟩ := hrel
    by_cases hkn : k < n
    · obtain ⟨p, hp⟩ := ln_get (L := s.lines) (k := k) (by rw [HN.out]; exact hkn)
      obtain ⟨b, off, rfl, hlt, q0, q1, q2, q3⟩ := HSH.out.2.1.cells k p hp
      have HE : Hid (unshB s.lines = (decide (p.shipped ≤ 0) && (s.lines.drop (k + 1)).all (fun l => decide (l.shipped ≤ 0)))) := HI.out.trans (all_drop hp)
      clear hp
      by_cases ht : p.shipped ≤ 0
      · have HF : Hid (unshB s.lines = (s.lines.drop (k + 1)).all (fun l => decide (l.shipped ≤ 0))) := by show _ = _; rw [HE.out, decide_eq_true ht]; rfl
        go_wp2
        go_roundw
        case rel => exact ⟨k + 1, n0, by omega, by go_num, rfl, HF.out⟩
        case measure => simp [intOf]; omega
      · have HF : Hid (unshB s.lines = false) := by show _ = _; rw [HE.out, decide_eq_false ht]; rfl
        go_wp2
        go_ret
        exact ⟨ret_bool (by rw [HF.out]), (StC.drewN HSH.out _).2.2⟩
    · have HT : Hid (unshB s.lines = true) := by show _ = _; rw [HI.out, List.drop_eq_nil_of_le (by rw [HN.out]; omega)]; rfl
      go_wp2
      go_ret
      exact ⟨ret_bool (by rw [HT.out]), (StC.drewN HSH.out _).2.2⟩
set_option maxRecDepth 20000 in
set_option maxHeartbeats 2000000 in
theorem rwhole_any (s : St) (a : Option Addr) (n cap : Nat) (w : World) (hn : s.lines.length = n) (hl : Lns w a s.lines) (hm : n ≤ maxLen) :
    Calls Tryz.prog 19 #[.agg (stA s (.slice a n cap))] w fun e w' => e = .returned (.bool (wholeB s.lines)) ∧ Below w.heap.size w w' := by
  have HN : Hid (s.lines.length = n) := hn
  unfold maxLen at hm
  obtain ⟨W, hW⟩ : ∃ W, w.alloc (.cells (stA s (.slice a n cap)) 25) = W := ⟨_, rfl⟩
  have HS := StC.new w s a n cap hl
  rw [hW] at HS
  have HSH : Hid (StC w w.heap.size s a n cap W) := HS
  have c5 : W.cell? ⟨w.heap.size, 5, none⟩ = some (.slice a n cap) := HS.1.cell 5 _ rfl
  clear hn hl HS
  go_enter Tryz.func19, Tryz.ntmps19
  go_wp2
  go_loopw [7] (fun vi wr => ∃ (k n0 : Nat), k ≤ n ∧ vi = .int .i64 k ∧ wr = W.drewN n0 ∧ Hid (wholeB s.lines = (s.lines.drop k).all (fun l => decide (l.qty ≤ l.shipped)))) (fun vi _ => n - (intOf vi).toNat)
  case atStart => exact ⟨0, 0, Nat.zero_le _, rfl, rfl, rfl⟩
  case round =>
    obtain ⟨k, n0, hk, rfl, rfl, HI⟩ := hrel
    by_cases hkn : k < n
    · obtain ⟨p, hp⟩ := ln_get (L := s.lines) (k := k) (by rw [HN.out]; exact hkn)
      obtain ⟨b, off, rfl, hlt, q0, q1, q2, q3⟩ := HSH.out.2.1.cells k p hp
      have HE : Hid (wholeB s.lines = (decide (p.qty ≤ p.shipped) && (s.lines.drop (k + 1)).all (fun l => decide (l.qty ≤ l.shipped)))) := HI.out.trans (all_drop hp)
      clear hp
      by_cases ht : p.qty ≤ p.shipped
      · have HF : Hid (wholeB s.lines = (s.lines.drop (k + 1)).all (fun l => decide (l.qty ≤ l.shipped))) := by show _ = _; rw [HE.out, decide_eq_true ht]; rfl
        go_wp2
        go_quiet (fail)
        go_wp2
        go_roundw
        case rel => exact ⟨k + 1, n0 + nq, by omega, by go_num, by first | rfl | exact drewN_add _ _ _, HF.out⟩
        case measure => simp [intOf]; omega
      · have HF : Hid (wholeB s.lines = false) := by show _ = _; rw [HE.out, decide_eq_false ht]; rfl
        go_wp2
        go_quiet (fail)
        go_wp2
        go_ret
        exact ⟨ret_bool (by rw [HF.out]), (StC.drewN (StC.drewN HSH.out _) _).2.2⟩
    · have HT : Hid (wholeB s.lines = true) := by show _ = _; rw [HI.out, List.drop_eq_nil_of_le (by rw [HN.out]; omega)]; rfl
      go_wp2
      go_ret
      exact ⟨ret_bool (by rw [HT.out]), (StC.drewN HSH.out _).2.2⟩
theorem lnB_no {last : Int} {l : Ln} (h : ¬ (last < l.item ∧ l.item ≤ 65535 ∧ 0 ≤ l.price ∧ l.price ≤ 100000000 ∧ 1 ≤ l.qty ∧ l.qty ≤ 100000 ∧ 0 ≤ l.shipped ∧ l.shipped ≤ l.qty)) : lnB last l = false := by
  cases hb : lnB last l with
  | false => rfl
  | true => exact absurd (lnB_facts hb) h
theorem lnB_yes {last : Int} {l : Ln} (h : last < l.item ∧ l.item ≤ 65535 ∧ 0 ≤ l.price ∧ l.price ≤ 100000000 ∧ 1 ≤ l.qty ∧ l.qty ≤ 100000 ∧ 0 ≤ l.shipped ∧ l.shipped ≤ l.qty) : lnB last l = true := by
  simp only [lnB, Bool.and_eq_true, wit_true]
  omega
set_option maxRecDepth 20000 in
set_option maxHeartbeats 4000000 in
theorem rlines_any (s : St) (a : Option Addr) (n cap : Nat) (w : World) (hn : s.lines.length = n) (hl : Lns w a s.lines) (hm : n ≤ maxLen) :
    Calls Tryz.prog 64 #[.agg (stA s (.slice a n cap))] w fun e w' => e = .returned (.bool (linesB s.lines)) ∧ Below w.heap.size w w' := by
  unfold maxLen at hm
  have HN : Hid (s.lines.length = n) := hn
  obtain ⟨W, hW⟩ : ∃ W, w.alloc (.cells (stA s (.slice a n cap)) 25) = W := ⟨_, rfl⟩
  have HS := StC.new w s a n cap hl
  rw [hW] at HS
  have HSH : Hid (StC w w.heap.size s a n cap W) := HS
  have c5 : W.cell? ⟨w.heap.size, 5, none⟩ = some (.slice a n cap) := HS.1.cell 5 _ rfl
  clear hl HS
  by_cases h16 : n ≤ 16
  · have HV : Hid (linesB s.lines = linesFrom (-1) (s.lines.drop 0)) := by show _ = _; unfold linesB; rw [decide_eq_true (by omega)]; rfl
    clear hn
    go_enter Tryz.func64, Tryz.ntmps64
    go_wp2
    go_loopw [3, 13] (fun vl vi wr => ∃ (k : Nat) (l : Int), k ≤ n ∧ vl = .int .i64 l ∧ vi = .int .i64 k ∧ -1 ≤ l ∧ l ≤ 65535 ∧ Hid (linesB s.lines = linesFrom l (s.lines.drop k) ∧ StC w w.heap.size s a n cap wr)) (fun _ vi _ => n - (intOf vi).toNat)
    case atStart => exact ⟨0, -1, Nat.zero_le _, rfl, rfl, by omega, by omega, HV.out, HSH.out⟩
    case round =>
      clear HV c5 hW
      obtain ⟨k, l, hk, rfl, rfl, hl0, hl1, HI⟩ := hrel
      have c5 : wr.cell? ⟨w.heap.size, 5, none⟩ = some (.slice a n cap) := HI.out.2.1.cell 5 _ rfl
      by_cases hkn : k < n
      · obtain ⟨p, hp⟩ := ln_get (L := s.lines) (k := k) (by rw [HN.out]; exact hkn)
        obtain ⟨b, off, rfl, hlt, q0, q1, q2, q3⟩ := HI.out.2.2.1.cells k p hp
        have HE : Hid (linesB s.lines = (lnB l p && linesFrom p.item (s.lines.drop (k + 1)))) := HI.out.1.trans (rightLines_step hp)
        have HB2 : ∀ o, Hid (StC w w.heap.size s (some ⟨b, off, none⟩) n cap (wr.alloc o)) := fun o => StC.alloc HI.out.2 o
        clear hp
        go_wp2
        all_goals first
          | (go_ret; exact ⟨ret_bool (by rw [HE.out, lnB_no (by omega)]; rfl), (HB2 _).out.2.2⟩)
          | (refine ⟨⟨k + 1, p.item, by omega, by go_num, by go_num, by omega, by omega, by rw [HE.out, lnB_yes (by omega)]; rfl, (HB2 _).out⟩, by simp [intOf]; omega⟩)
      · have HT : Hid (linesB s.lines = true) := by show _ = _; rw [HI.out.1, List.drop_eq_nil_of_le (by rw [HN.out]; omega)]; rfl
        go_wp2
        go_ret
        exact ⟨ret_bool (by rw [HT.out]), HI.out.2.2.2⟩
  · have HF : Hid (linesB s.lines = false) := by show _ = _; unfold linesB; rw [decide_eq_false (by omega)]; rfl
    clear hn
    go_enter Tryz.func64, Tryz.ntmps64
    go_wp2
    go_ret
    exact ⟨ret_bool (by rw [HF.out]), HSH.out.2.2⟩
set_option maxRecDepth 20000 in
theorem rstands_any (s : St) (a : Option Addr) (n cap : Nat) (w : World) : Calls Tryz.prog 65 #[.agg (stA s (.slice a n cap))] w fun e w' => e = .returned (.int .i64 (standS s)) ∧ Below w.heap.size w w' := by
  by_cases h : s.status = 2
  · have HS : Hid (standS s = s.prior) := if_pos h
    have hb : (s.status == 2) = true := by simpa using h
    rw [HS.out]
    clear h
    unfold stA
    go_enter Tryz.func65, Tryz.ntmps65
    go_wp2
    go_ret
    exact ⟨rfl, (Below.refl _ _).alloc (Nat.le_refl _) _⟩
  · have HS : Hid (standS s = s.status) := if_neg h
    have hb : (s.status == 2) = false := by simpa using h
    rw [HS.out]
    clear h
    unfold stA
    go_enter Tryz.func65, Tryz.ntmps65
    go_wp2
    go_ret
    exact ⟨rfl, (Below.refl _ _).alloc (Nat.le_refl _) _⟩
set_option maxRecDepth 20000 in
set_option maxHeartbeats 4000000 in
theorem rdue_any (s : St) (a : Option Addr) (n cap : Nat) (w : World) (hn : s.lines.length = n) (hl : Lns w a s.lines) (hb : linesB s.lines = true) (ht0 : 0 ≤ s.tax) (ht : s.tax ≤ 5000) :
    Calls Tryz.prog 17 #[.agg (stA s (.slice a n cap))] w fun e w' => e = .returned (.int .i64 (dueS s)) ∧ Below w.heap.size w w' := by
  have HE := (StC.new w s a n cap hl).drew
  obtain ⟨E, hE⟩ : ∃ E, StC w w.heap.size s a n cap = E := ⟨_, rfl⟩
  have R : Hid (∀ w2, E w2 → w2.cell? ⟨w.heap.size, 4, none⟩ = some (.int .i64 s.tax)) := fun w2 h => by rw [← hE] at h; exact h.1.cell 4 _ rfl
  have RS : Hid (∀ w2, E w2 → StAt w2 w.heap.size s (.slice a n cap)) := fun w2 h => by rw [← hE] at h; exact h.1
  have HBel : Hid (∀ w2, E w2 → Below w.heap.size w w2) := fun w2 h => by rw [← hE] at h; exact h.2.2
  have HLn : Hid (∀ w2, E w2 → Lns w2 a s.lines) := fun w2 h => by rw [← hE] at h; exact h.2.1
  have HK : Hid (∀ w1 w2, E w1 → Below w1.heap.size w1 w2 → E w2) := fun w1 w2 h h2 => by rw [← hE] at h ⊢; exact h.keep h2
  obtain ⟨S, hS⟩ : ∃ S, net s.lines = S := ⟨_, rfl⟩
  have t1 := net_bound hb
  rw [hS] at t1
  obtain ⟨m1, m2⟩ := md_tax t1.1 t1.2 ht0 ht
  obtain ⟨b1, b2⟩ := tax_bound t1.1 t1.2 ht0 ht
  obtain ⟨X, hX⟩ : ∃ X, S * s.tax / 10000 = X := ⟨_, rfl⟩
  have hX0 : 0 ≤ X := by omega
  have hX1 : X ≤ 80000000000000 := by omega
  have HM : Hid (mdV S s.tax 10000 = X ∧ mdB S s.tax 10000 = true) := ⟨m1.trans hX, m2⟩
  have HD : Hid (dueS s = S + X) := by show _ = _; unfold dueS; rw [hS, hX]
  have hSX : wrap64 (S + X) = S + X := wrap64_in (by omega) (by omega)
  have C1 : Hid (∀ w2, E w2 → Calls Tryz.prog 33 #[.agg (stA s (.slice a n cap))] w2 fun e w' => e = .returned (.int .i64 S) ∧ E w') := fun w2 h => (rnet_any s a n cap w2 hn (HLn.out w2 h) hb).mono fun e w' ⟨h1, h2⟩ => ⟨by rw [← hS]; exact h1, HK.out _ _ h h2⟩
  have C2 : Hid (∀ w2, E w2 → Calls Tryz.prog 32 #[.int .i64 S, .int .i64 s.tax, .int .i64 10000] w2 fun e w' => e = .returned (.tuple #[.int .i64 X, .bool true]) ∧ E w') := fun w2 h => (rmd.rmd_any S s.tax 10000 w2 ⟨by omega, by omega⟩ ⟨by omega, by omega⟩ ⟨by omega, by omega⟩).mono fun e w' ⟨h1, h2⟩ => ⟨by rw [HM.out.1, HM.out.2] at h1; exact h1, HK.out _ _ h h2⟩
  rw [hE] at HE
  have HEE : Hid (E (World.drew _)) := HE
  rw [HD.out]
  clear hn hl hb hS hE HE m1 m2 b1 b2 hX
  go_enter Tryz.func17, Tryz.ntmps17
  go_wp2
  refine wp_region_quiet (C := E) (by kernel_rfl) (by kernel_rfl) HEE.out ?_
  simp only [List.toList_toArray]
  repeat (any_goals (first
    | go_big_quiet_skip
    | (go_big_quiet_want
       first
       | (refine quiet_val (v := .agg (stA s (.slice a n cap))) (fun w2 hw2 => exec_load_st (.tmp 1) rfl rfl (RS.out w2 hw2)) ?_
          go_big_quiet_on; simp only [Act.put, List.setIfInBounds_toArray, List.set_cons_zero, List.set_cons_succ])
       | (refine quiet_val (v := ?_) (fun w2 hw2 => ?_) ?_
          rotate_left
          · (first | (go_simp; with_reducible rfl) | (have q1 := R.out w2 hw2; go_simp; with_reducible rfl))
          go_big_quiet_on; simp only [Act.put, List.setIfInBounds_toArray, List.set_cons_zero, List.set_cons_succ])
       | (refine quiet_call (v := ?_) (f := ?_) (args := ?_) (fun w2 hw2 => ?_) (fun w2 hw2 => ?_) ?_
          rotate_left 3
          · (go_simp; refine ⟨?_, ?_⟩ <;> with_reducible rfl)
          first
          | (· (go_at_call 33; exact C1.out _ hw2)
             (go_big_quiet_on; simp only [Act.put, List.setIfInBounds_toArray, List.set_cons_zero, List.set_cons_succ]))
          | (· (go_at_call 32; exact C2.out _ hw2)
             (go_big_quiet_on; simp only [Act.put, List.setIfInBounds_toArray, List.set_cons_zero, List.set_cons_succ]))))))
  all_goals
    refine wpQuiet_nil ?_
    intro w3 hw3
    have HW3 : Hid (E w3) := hw3
    clear hw3
    go_wp2_with (first
      | ((with_reducible refine guard_load 25 ?_); refine wpList_load_st rfl _ rfl (RS.out w3 HW3.out) rfl ?_)
      | (go_at_call 33; refine (C1.out _ HW3.out).mono ?_; rintro _ w4 ⟨rfl, h4⟩; have HW4 : Hid (E w4) := h4; clear h4))
    go_ret
    exact ⟨rfl, HBel.out _ HW4.out⟩
end Go.Proofs.YtbpjlphjhjfdoaaGreat
