/- What the reference's Check and To answer, at every input; what upcast.Step answers, at every number. -/
import Derived.Test.YtbgdkpkeghnmmaaDoorRChk1
import Derived.Test.YtbgdkpkeghnmmaaDoorRChk2
import Derived.Test.YtbgdkpkeghnmmaaDoorRChk3
import Derived.Test.YtbgdkpkeghnmmaaDoorRChk4
import Derived.Test.YtbgdkpkeghnmmaaDoorRChk5
import Derived.Test.YtbgdkpkeghnmmaaDoorRStep
namespace Go.Proofs.YtbgdkpkeghnmmaaDoor
open Go.ChangeShapes Go.WideShapes Go.ChangeAt Go.RowKit
set_option linter.unusedVariables false
set_option maxRecDepth 20000 in
theorem rcheck_no (v : Int) (e : Ev) (w : World) (h : v < 1 ∨ 5 < v) :
    Calls Tryd.prog 13 #[.int .i64 v, .agg (evA e)] w fun x w' => x = .returned (.int .i64 30) ∧ Below w.heap.size w w' := by
  by_cases h1 : v < 1
  · go_enter Tryd.func13, Tryd.ntmps13
    go_wp2
    go_ret
    exact ⟨rfl, (Below.refl _ _).alloc (Nat.le_refl _) _⟩
  · have h2 : 5 < v := by omega
    have d1 : decide (v < 1) = false := by simp; omega
    clear h
    go_enter Tryd.func13, Tryd.ntmps13
    go_wp2
    go_ret
    exact ⟨rfl, (Below.refl _ _).alloc (Nat.le_refl _) _⟩
theorem rcheck_ev (v : Int) (e : Ev) (w : World) :
    Calls Tryd.prog 13 #[.int .i64 v, .agg (evA e)] w fun x w' => x = .returned (.int .i64 (chk v e)) ∧ Below w.heap.size w w' := by
  by_cases h : v < 1 ∨ 5 < v
  · rw [show chk v e = 30 from if_pos h]
    exact rcheck_no v e w h
  · have hv : v = 1 ∨ v = 2 ∨ v = 3 ∨ v = 4 ∨ v = 5 := by omega
    rcases hv with rfl | rfl | rfl | rfl | rfl
    · exact rcheck1 e.kind e.order e.item e.qty e.price e.cur e.tax e.who e.stamp e.note w
    · exact rcheck2 e.kind e.order e.item e.qty e.price e.cur e.tax e.who e.stamp e.note w
    · exact rcheck3 e.kind e.order e.item e.qty e.price e.cur e.tax e.who e.stamp e.note w
    · exact rcheck4 e.kind e.order e.item e.qty e.price e.cur e.tax e.who e.stamp e.note w
    · exact rcheck5 e.kind e.order e.item e.qty e.price e.cur e.tax e.who e.stamp e.note w
set_option maxRecDepth 20000 in
set_option maxHeartbeats 2000000 in
theorem rto_lowf (f t : Int) (e : Ev) (w : World) (ht : Tax w) (h : f < 1) :
    Calls Tryd.prog 8 #[.int .i64 f, .int .i64 t, .agg (evA e)] w fun x w' => x = .returned (.tuple #[.agg (evA zeroE), .int .i64 30]) ∧ Below w.heap.size w w' := by
  have HT0 := ht.1
  have FR := Fr.start w e ht
  clear ht
  go_enter Tryd.func8, Tryd.ntmps8
  go_wp2_with (first
    | ((with_reducible refine guard_store 24 ?_); refine wpList_store_ev (e2 := zeroE) rfl _ _ rfl FR.out.2.1 rfl rfl ?_; intro w9 z1 z2 z3 z4; have FQ := FR.out.put2 (by omega) (by omega) HT0 z1 z2 z3 z4; clear FR z1 z2 z3 z4; have FR := FQ; clear FQ))
  exact bodyPost_ret (v := .tuple #[.agg (evA zeroE), .int .i64 30]) (results_ev Tryd.results8 _ _ _ _ _ rfl rfl FR.out.2.1) rfl ⟨rfl, FR.out.2.2.1⟩
set_option maxRecDepth 20000 in
set_option maxHeartbeats 2000000 in
theorem rto_hightf (f t : Int) (e : Ev) (w : World) (ht : Tax w) (h : 5 < f) :
    Calls Tryd.prog 8 #[.int .i64 f, .int .i64 t, .agg (evA e)] w fun x w' => x = .returned (.tuple #[.agg (evA zeroE), .int .i64 30]) ∧ Below w.heap.size w w' := by
  have HT0 := ht.1
  have FR := Fr.start w e ht
  clear ht
  have d1 : decide (f < 1) = false := by simp; omega
  go_enter Tryd.func8, Tryd.ntmps8
  go_wp2_with (first
    | ((with_reducible refine guard_store 24 ?_); refine wpList_store_ev (e2 := zeroE) rfl _ _ rfl FR.out.2.1 rfl rfl ?_; intro w9 z1 z2 z3 z4; have FQ := FR.out.put2 (by omega) (by omega) HT0 z1 z2 z3 z4; clear FR z1 z2 z3 z4; have FR := FQ; clear FQ))
  exact bodyPost_ret (v := .tuple #[.agg (evA zeroE), .int .i64 30]) (results_ev Tryd.results8 _ _ _ _ _ rfl rfl FR.out.2.1) rfl ⟨rfl, FR.out.2.2.1⟩
set_option maxRecDepth 20000 in
set_option maxHeartbeats 2000000 in
theorem rto_turned (f t : Int) (e : Ev) (w : World) (ht : Tax w) (h : 1 ≤ f) (h2 : f ≤ 5) (h3 : t < f) :
    Calls Tryd.prog 8 #[.int .i64 f, .int .i64 t, .agg (evA e)] w fun x w' => x = .returned (.tuple #[.agg (evA zeroE), .int .i64 30]) ∧ Below w.heap.size w w' := by
  have HT0 := ht.1
  have FR := Fr.start w e ht
  clear ht
  have d1 : decide (f < 1) = false := by simp; omega
  have d2 : decide (5 < f) = false := by simp; omega
  go_enter Tryd.func8, Tryd.ntmps8
  go_wp2_with (first
    | ((with_reducible refine guard_store 24 ?_); refine wpList_store_ev (e2 := zeroE) rfl _ _ rfl FR.out.2.1 rfl rfl ?_; intro w9 z1 z2 z3 z4; have FQ := FR.out.put2 (by omega) (by omega) HT0 z1 z2 z3 z4; clear FR z1 z2 z3 z4; have FR := FQ; clear FQ))
  exact bodyPost_ret (v := .tuple #[.agg (evA zeroE), .int .i64 30]) (results_ev Tryd.results8 _ _ _ _ _ rfl rfl FR.out.2.1) rfl ⟨rfl, FR.out.2.2.1⟩
set_option maxRecDepth 20000 in
set_option maxHeartbeats 2000000 in
theorem rto_hight (f t : Int) (e : Ev) (w : World) (ht : Tax w) (h : 1 ≤ f) (h2 : f ≤ 5) (h3 : f ≤ t) (h4 : 5 < t) :
    Calls Tryd.prog 8 #[.int .i64 f, .int .i64 t, .agg (evA e)] w fun x w' => x = .returned (.tuple #[.agg (evA zeroE), .int .i64 30]) ∧ Below w.heap.size w w' := by
  have HT0 := ht.1
  have FR := Fr.start w e ht
  clear ht
  have d1 : decide (f < 1) = false := by simp; omega
  have d2 : decide (5 < f) = false := by simp; omega
  have d3 : decide (t < f) = false := by simp; omega
  go_enter Tryd.func8, Tryd.ntmps8
  go_wp2_with (first
    | ((with_reducible refine guard_store 24 ?_); refine wpList_store_ev (e2 := zeroE) rfl _ _ rfl FR.out.2.1 rfl rfl ?_; intro w9 z1 z2 z3 z4; have FQ := FR.out.put2 (by omega) (by omega) HT0 z1 z2 z3 z4; clear FR z1 z2 z3 z4; have FR := FQ; clear FQ))
  exact bodyPost_ret (v := .tuple #[.agg (evA zeroE), .int .i64 30]) (results_ev Tryd.results8 _ _ _ _ _ rfl rfl FR.out.2.1) rfl ⟨rfl, FR.out.2.2.1⟩
set_option maxRecDepth 20000 in
set_option maxHeartbeats 2000000 in
theorem rto_bad (f t : Int) (e : Ev) (w : World) (ht : Tax w) (h1 : 1 ≤ f) (h2 : t ≤ 5) (h3 : f ≤ t) (hc : (chk f e != 0) = true) :
    Calls Tryd.prog 8 #[.int .i64 f, .int .i64 t, .agg (evA e)] w fun x w' => x = .returned (.tuple #[.agg (evA zeroE), .int .i64 (chk f e)]) ∧ Below w.heap.size w w' := by
  have HT0 := ht.1
  have FR := Fr.start w e ht
  clear ht
  obtain ⟨r, HC⟩ : ∃ r, Hid (chk f e = r) := ⟨_, rfl⟩
  rw [HC.out] at hc ⊢
  have d1 : decide (f < 1) = false := by simp; omega
  have d2 : decide (5 < f) = false := by simp; omega
  have d3 : decide (t < f) = false := by simp; omega
  have d4 : decide (5 < t) = false := by simp; omega
  go_enter Tryd.func8, Tryd.ntmps8
  go_wp2_with (first
    | ((with_reducible refine guard_load 24 ?_); refine wpList_load_ev rfl _ rfl FR.out.1 rfl ?_)
    | (go_at_call 13; refine (rcheck_ev f e _).mono ?_; rw [HC.out]; rintro _ w8 ⟨rfl, hb8⟩; have FQ := FR.out.keep hb8; clear FR hb8; have FR := FQ; clear FQ)
    | ((with_reducible refine guard_store 24 ?_); refine wpList_store_ev (e2 := zeroE) rfl _ _ rfl FR.out.2.1 rfl rfl ?_; intro w9 z1 z2 z3 z4; have FQ := FR.out.put2 (by omega) (by omega) HT0 z1 z2 z3 z4; clear FR z1 z2 z3 z4; have FR := FQ; clear FQ))
  exact bodyPost_ret (v := .tuple #[.agg (evA zeroE), .int .i64 r]) (results_ev Tryd.results8 _ _ _ _ _ rfl rfl FR.out.2.1) rfl ⟨rfl, FR.out.2.2.1⟩
set_option maxRecDepth 20000 in
set_option maxHeartbeats 4000000 in
theorem rto_good (f t : Int) (e : Ev) (w : World) (ht : Tax w) (h1 : 1 ≤ f) (h2 : t ≤ 5) (h3 : f ≤ t) (hc : chk f e = 0) :
    Calls Tryd.prog 8 #[.int .i64 f, .int .i64 t, .agg (evA e)] w fun x w' => x = .returned (.tuple #[.agg (evA (toE f t e)), .int .i64 0]) ∧ Below w.heap.size w w' := by
  have HT0 := ht.1
  have FR := Fr.start w e ht
  have HC : Hid (chk f e = 0) := hc
  have HRT : Hid (Right f e) := right_of hc
  clear ht hc
  have d1 : decide (f < 1) = false := by simp; omega
  have d2 : decide (5 < f) = false := by simp; omega
  have d3 : decide (t < f) = false := by simp; omega
  have d4 : decide (5 < t) = false := by simp; omega
  go_enter Tryd.func8, Tryd.ntmps8
  go_wp2_with (first
    | ((with_reducible refine guard_load 24 ?_); refine wpList_load_ev rfl _ rfl FR.out.1 rfl ?_)
    | (go_at_call 13; refine (rcheck_ev f e _).mono ?_; rw [HC.out]; rintro _ w8 ⟨rfl, hb8⟩; have FQ := FR.out.keep hb8; clear FR hb8; have FR := FQ; clear FQ))
  go_loopw [9] (fun i wr => ∃ v : Int, f ≤ v ∧ v ≤ t ∧ i = .int .i64 v ∧ Hid (Fr w wr w.heap.size (w.heap.size + 1) (toE f v e) zeroE)) (fun i _ => (t - intOf i).toNat)
  case atStart => exact ⟨f, by omega, by omega, rfl, by rw [to_same e f h1 (by omega)]; exact FR⟩
  case round =>
    clear FR
    obtain ⟨v, v1, v2, rfl, FR⟩ := hrel
    by_cases hlt : v < t
    · have R1 : Hid (Right v (toE f v e)) := right_to HRT.out v1 (by omega)
      have HE : Hid (upE v (toE f v e) = toE f (v + 1) e) := by
        show _ = _
        rw [← to_one (toE f v e) v (by omega) (by omega), to_two e f v (v + 1) h1 v1 (by omega) (by omega)]
      go_wp2_with (first
        | ((with_reducible refine guard_load 24 ?_); refine wpList_load_ev rfl _ rfl FR.out.1 rfl ?_)
        | (go_at_call 14; refine (rstep_ev v _ _ R1.out (by omega)).mono ?_; rintro _ w8 ⟨rfl, hb8⟩; have FQ := FR.out.keep hb8; clear FR hb8; have FR := FQ; clear FQ)
        | ((with_reducible refine guard_store 24 ?_); refine wpList_store_ev rfl _ _ rfl FR.out.1 rfl rfl ?_; intro w9 z1 z2 z3 z4; have FQ := FR.out.put1 (by omega) (by omega) HT0 z1 z2 z3 z4; clear FR z1 z2 z3 z4; have FR := FQ; clear FQ))
      go_roundw
      case rel => exact ⟨v + 1, by omega, by omega, by go_num, by rw [← HE.out]; exact FR⟩
      case measure => simp [intOf]; omega
    · have hvt : v = t := by omega
      subst hvt
      go_wp2_with (first
        | ((with_reducible refine guard_load 24 ?_); refine wpList_load_ev rfl _ rfl FR.out.1 rfl ?_)
        | ((with_reducible refine guard_store 24 ?_); refine wpList_store_ev rfl _ _ rfl FR.out.2.1 rfl rfl ?_; intro w9 z1 z2 z3 z4; have FQ := FR.out.put2 (by omega) (by omega) HT0 z1 z2 z3 z4; clear FR z1 z2 z3 z4; have FR := FQ; clear FQ))
      exact bodyPost_ret (v := .tuple #[.agg (evA (toE f v e)), .int .i64 0]) (results_ev Tryd.results8 _ _ _ _ _ rfl rfl FR.out.2.1) rfl ⟨rfl, FR.out.2.2.1⟩
theorem rto_any (f t : Int) (e : Ev) (w : World) (ht : Tax w) :
    Calls Tryd.prog 8 #[.int .i64 f, .int .i64 t, .agg (evA e)] w fun x w' => x = .returned (.tuple #[.agg (evA (toR f t e)), .int .i64 (toC f t e)]) ∧ Below w.heap.size w w' := by
  unfold toR toC
  by_cases hb : toBad f t
  · rw [if_pos hb, if_pos hb]
    unfold toBad at hb
    by_cases h1 : f < 1
    · exact rto_lowf f t e w ht h1
    · by_cases h2 : 5 < f
      · exact rto_hightf f t e w ht h2
      · by_cases h3 : t < f
        · exact rto_turned f t e w ht (by omega) (by omega) h3
        · exact rto_hight f t e w ht (by omega) (by omega) (by omega) (by omega)
  · rw [if_neg hb, if_neg hb]
    unfold toBad at hb
    by_cases hc : chk f e = 0
    · rw [if_pos hc, hc]
      exact rto_good f t e w ht (by omega) (by omega) (by omega) hc
    · rw [if_neg hc]
      exact rto_bad f t e w ht (by omega) (by omega) (by omega) (by simpa using hc)
/-- an event stored into a block that is there -/
theorem Evs.put {w w1 w2 : World} {l m : List (Nat × Ev)} {b : Nat} {e : Ev} (h : Evs w w1 l) (h0 : 0 < w.heap.size) (hw : w.heap.size ≤ b) (hm : ∀ p ∈ m, p ∈ l ∧ p.1 ≠ b) (h1 : EvAt w2 b e) (h2 : ∀ B a, Below B a w1 → B ≤ b → Below B a w2) (h3 : ∀ k, k ≠ b → w2.heap[k]? = w1.heap[k]?) (h4 : w2.heap.size = w1.heap.size) : Hid (Evs w w2 ((b, e) :: m)) := by
  refine ⟨h2 _ _ h.1 hw, tax_far h.2.1 (by omega) h3 h4, fun p hp => ?_⟩
  rcases List.mem_cons.1 hp with rfl | hp
  · exact h1
  · exact (h3 p.1 (hm p hp).2).trans (h.2.2 p (hm p hp).1)
end Go.Proofs.YtbgdkpkeghnmmaaDoor
