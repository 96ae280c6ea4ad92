/- What upcast.To and upcast.Step answer. -/
import Derived.Test.YtbgdkpkeghnmmaaDoorHead07
import Derived.Laws.EntriesVeiled
namespace Go.Proofs.YtbgdkpkeghnmmaaDoor
open Go.ChangeShapes Go.WideShapes Go.ChangeAt Go.RowKit
def stepE (f t : Int) (k : Nat) (e : Ev) : Ev := if f ≤ (k : Int) + 1 ∧ (k : Int) + 1 < t then upE ((k : Int) + 1) e else e
def runE (f t : Int) : Nat → Ev → Ev
  | 0, e => e
  | k + 1, e => stepE f t k (runE f t k e)
def toE (f t : Int) (e : Ev) : Ev := runE f t 4 e
theorem run_before (f t : Int) (e : Ev) (k : Nat) (h : (k : Int) < f) : runE f t k e = e := by
  induction k with
  | zero => rfl
  | succ k ih =>
    show stepE f t k (runE f t k e) = e
    rw [ih (by omega)]
    exact if_neg (by omega)
theorem right_up {v : Int} {e : Ev} (h : Right v e) (hv : v ≤ 4) : Right (v + 1) (upE v e) := by
  have h4 : v = 1 ∨ v = 2 ∨ v = 3 ∨ v = 4 := by have := h.v1; omega
  rcases h4 with rfl | rfl | rfl | rfl
  · exact right1 h
  · exact right2 h
  · exact right3 h
  · exact right4 h
theorem right_run (f t : Int) (e : Ev) (h : Right f e) (k : Nat) (h1 : f ≤ (k : Int) + 1) (h2 : (k : Int) + 1 ≤ t) (h5 : t ≤ 5) : Right ((k : Int) + 1) (runE f t k e) := by
  induction k with
  | zero =>
    have : f = 1 := by have := h.v1; omega
    subst this
    exact h
  | succ k ih =>
    show Right _ (stepE f t k (runE f t k e))
    by_cases hin : f ≤ (k : Int) + 1
    · unfold stepE
      rw [if_pos ⟨hin, by omega⟩, show ((k + 1 : Nat) : Int) + 1 = ((k : Int) + 1) + 1 from by omega]
      exact right_up (ih hin (by omega)) (by omega)
    · have hf : f = (k : Int) + 2 := by omega
      unfold stepE
      rw [if_neg (by omega), run_before f t e k (by omega), show ((k + 1 : Nat) : Int) + 1 = f from by omega]
      exact h
def StepsAt (w : World) (g : Nat) : Prop := w.heap[g]? = some (.cells #[.int .i64 1, .func (.func 16) #[] #[], .int .i64 2, .func (.func 17) #[] #[], .int .i64 3, .func (.func 18) #[] #[], .int .i64 4, .func (.func 19) #[] #[]] 42)
theorem StepsAt.lt {w : World} {g : Nat} (h : StepsAt w g) : g < w.heap.size := by
  by_cases hh : g < w.heap.size
  · exact hh
  · unfold StepsAt at h; rw [Array.getElem?_eq_none (by omega)] at h; cases h
theorem StepsAt.after {w w' : World} {g : Nat} (h : StepsAt w g) (hb : Below w.heap.size w w') : Hid (StepsAt w' g) := (hb.block g h.lt).trans h
theorem StepsAt.cell {w : World} {g : Nat} (h : StepsAt w g) (i : Nat) (v : Value) (hv : (#[.int .i64 1, .func (.func 16) #[] #[], .int .i64 2, .func (.func 17) #[] #[], .int .i64 3, .func (.func 18) #[] #[], .int .i64 4, .func (.func 19) #[] #[]] : Array Value)[i]? = some v) : w.cell? ⟨g, i, none⟩ = some v := by
  rw [cell_of_row w g i _ _ _ h]; exact hv
set_option maxRecDepth 20000 in
theorem steps_any (w : World) :
    Calls Tryd.prog 15 #[] w fun x w' => x = .returned (.slice (some ⟨w.heap.size, 0, none⟩) 4 4) ∧ StepsAt w' w.heap.size ∧ Below w.heap.size w w' := by
  go_enter Tryd.func15, Tryd.ntmps15
  go_wp2
  go_ret
  exact ⟨rfl, heap_alloc_new w _, (Below.refl _ _).alloc (Nat.le_refl _) _⟩
theorem bnew (w : World) (O : Obj) : Below w.heap.size w (w.alloc O) := (Below.refl _ _).alloc (Nat.le_refl _) _
set_option maxRecDepth 20000 in
set_option maxHeartbeats 2000000 in
theorem to_lowf (f t : Int) (e : Ev) (w : World) (ht : Tax w) (h : f < 1) :
    Calls Tryd.prog 10 #[.int .i64 f, .int .i64 t, .agg (evA e)] w fun x w' => x = .returned (.tuple #[.agg (evA zeroE), .int .i64 30]) ∧ Below w.heap.size w w' := by
  have HT0 := ht.1
  have FR := Fr.start w e ht
  clear ht
  go_enter Tryd.func10, Tryd.ntmps10
  go_wp2_with (first
    | ((with_reducible refine guard_store 24 ?_); refine wpList_store_ev (e2 := zeroE) rfl _ _ rfl FR.out.2.1 rfl rfl ?_; intro w9 z1 z2 z3 z4; have FQ := FR.out.put2 (by omega) (by omega) HT0 z1 z2 z3 z4; clear FR z1 z2 z3 z4; have FR := FQ; clear FQ))
  exact bodyPost_ret (v := .tuple #[.agg (evA zeroE), .int .i64 30]) (results_ev Tryd.results10 _ _ _ _ _ rfl rfl FR.out.2.1) rfl ⟨rfl, FR.out.2.2.1⟩
set_option maxRecDepth 20000 in
set_option maxHeartbeats 2000000 in
theorem to_hight (f t : Int) (e : Ev) (w : World) (ht : Tax w) (h : 1 ≤ f) (h2 : 5 < t) :
    Calls Tryd.prog 10 #[.int .i64 f, .int .i64 t, .agg (evA e)] w fun x w' => x = .returned (.tuple #[.agg (evA zeroE), .int .i64 30]) ∧ Below w.heap.size w w' := by
  have HT0 := ht.1
  have FR := Fr.start w e ht
  clear ht
  have d1 : decide (f < 1) = false := by simp; omega
  go_enter Tryd.func10, Tryd.ntmps10
  go_wp2_with (first
    | ((with_reducible refine guard_store 24 ?_); refine wpList_store_ev (e2 := zeroE) rfl _ _ rfl FR.out.2.1 rfl rfl ?_; intro w9 z1 z2 z3 z4; have FQ := FR.out.put2 (by omega) (by omega) HT0 z1 z2 z3 z4; clear FR z1 z2 z3 z4; have FR := FQ; clear FQ))
  exact bodyPost_ret (v := .tuple #[.agg (evA zeroE), .int .i64 30]) (results_ev Tryd.results10 _ _ _ _ _ rfl rfl FR.out.2.1) rfl ⟨rfl, FR.out.2.2.1⟩
set_option maxRecDepth 20000 in
set_option maxHeartbeats 2000000 in
theorem to_turned (f t : Int) (e : Ev) (w : World) (ht : Tax w) (h : 1 ≤ f) (h2 : t ≤ 5) (h3 : t < f) :
    Calls Tryd.prog 10 #[.int .i64 f, .int .i64 t, .agg (evA e)] w fun x w' => x = .returned (.tuple #[.agg (evA zeroE), .int .i64 30]) ∧ Below w.heap.size w w' := by
  have HT0 := ht.1
  have FR := Fr.start w e ht
  clear ht
  have d1 : decide (f < 1) = false := by simp; omega
  have d2 : decide (5 < t) = false := by simp; omega
  go_enter Tryd.func10, Tryd.ntmps10
  go_wp2_with (first
    | ((with_reducible refine guard_store 24 ?_); refine wpList_store_ev (e2 := zeroE) rfl _ _ rfl FR.out.2.1 rfl rfl ?_; intro w9 z1 z2 z3 z4; have FQ := FR.out.put2 (by omega) (by omega) HT0 z1 z2 z3 z4; clear FR z1 z2 z3 z4; have FR := FQ; clear FQ))
  exact bodyPost_ret (v := .tuple #[.agg (evA zeroE), .int .i64 30]) (results_ev Tryd.results10 _ _ _ _ _ rfl rfl FR.out.2.1) rfl ⟨rfl, FR.out.2.2.1⟩
set_option maxRecDepth 20000 in
set_option maxHeartbeats 2000000 in
theorem to_bad (f t : Int) (e : Ev) (w : World) (ht : Tax w) (h1 : 1 ≤ f) (h2 : t ≤ 5) (h3 : f ≤ t) (hc : (chk f e != 0) = true) :
    Calls Tryd.prog 10 #[.int .i64 f, .int .i64 t, .agg (evA e)] w fun x w' => x = .returned (.tuple #[.agg (evA zeroE), .int .i64 (chk f e)]) ∧ Below w.heap.size w w' := by
  have HT0 := ht.1
  have FR := Fr.start w e ht
  clear ht
  obtain ⟨r, HC⟩ : ∃ r, Hid (chk f e = r) := ⟨_, rfl⟩
  rw [HC.out] at hc ⊢
  have d1 : decide (f < 1) = false := by simp; omega
  have d2 : decide (5 < t) = false := by simp; omega
  have d3 : decide (t < f) = false := by simp; omega
  go_enter Tryd.func10, Tryd.ntmps10
  go_wp2_with (first
    | ((with_reducible refine guard_load 24 ?_); refine wpList_load_ev rfl _ rfl FR.out.1 rfl ?_)
    | (go_at_call 12; refine (check_ev f e _).mono ?_; rw [HC.out]; rintro _ w8 ⟨rfl, hb8⟩; have FQ := FR.out.keep hb8; clear FR hb8; have FR := FQ; clear FQ)
    | ((with_reducible refine guard_store 24 ?_); refine wpList_store_ev (e2 := zeroE) rfl _ _ rfl FR.out.2.1 rfl rfl ?_; intro w9 z1 z2 z3 z4; have FQ := FR.out.put2 (by omega) (by omega) HT0 z1 z2 z3 z4; clear FR z1 z2 z3 z4; have FR := FQ; clear FQ))
  exact bodyPost_ret (v := .tuple #[.agg (evA zeroE), .int .i64 r]) (results_ev Tryd.results10 _ _ _ _ _ rfl rfl FR.out.2.1) rfl ⟨rfl, FR.out.2.2.1⟩
set_option linter.unusedVariables false
set_option maxRecDepth 20000 in
set_option maxHeartbeats 4000000 in
theorem to_good (f t : Int) (e : Ev) (w : World) (ht : Tax w) (h1 : 1 ≤ f) (h2 : t ≤ 5) (h3 : f ≤ t) (hc : chk f e = 0) :
    Calls Tryd.prog 10 #[.int .i64 f, .int .i64 t, .agg (evA e)] w fun x w' => x = .returned (.tuple #[.agg (evA (toE f t e)), .int .i64 0]) ∧ Below w.heap.size w w' := by
  have HT0 := ht.1
  have FR := Fr.start w e ht
  have HC : Hid (chk f e = 0) := hc
  have HRT : Hid (Right f e) := right_of hc
  clear ht hc
  have d1 : decide (f < 1) = false := by simp; omega
  have d2 : decide (5 < t) = false := by simp; omega
  have d3 : decide (t < f) = false := by simp; omega
  go_enter Tryd.func10, Tryd.ntmps10
  go_wp2_with (first
    | ((with_reducible refine guard_load 24 ?_); refine wpList_load_ev rfl _ rfl FR.out.1 rfl ?_)
    | (go_at_call 12; refine (check_ev f e _).mono ?_; rw [HC.out]; rintro _ w8 ⟨rfl, hb8⟩; have FQ := FR.out.keep hb8; clear FR hb8; have FR := FQ; clear FQ)
    | (go_at_call 15; refine (steps_any _).mono ?_; rintro _ w7 ⟨rfl, hs7, hb7⟩; have hg : w.heap.size + 1 < w8.heap.size := FR.out.2.1.lt; obtain ⟨g, HG⟩ : ∃ g, Hid (w8.heap.size = g) := ⟨_, rfl⟩; have SR : Hid (StepsAt w7 w8.heap.size) := hs7; have FQ := FR.out.keep hb7; clear FR hb7 hs7; have FR := FQ; clear FQ; rw [HG.out] at SR hg ⊢))
  go_loopw [32] (fun i wr => ∃ k : Nat, k ≤ 4 ∧ i = .int .i64 k ∧ Hid (Fr w wr w.heap.size (w.heap.size + 1) (runE f t k e) zeroE) ∧ Hid (StepsAt wr g)) (fun i _ => 4 - (intOf i).toNat)
  case atStart => exact ⟨0, by omega, rfl, FR, SR⟩
  case round =>
    clear FR SR
    obtain ⟨k, hk, rfl, FR, SR⟩ := hrel
    have hk5 : k = 0 ∨ k = 1 ∨ k = 2 ∨ k = 3 ∨ k = 4 := by omega
    clear hk
    rcases hk5 with rfl | rfl | rfl | rfl | rfl
    · have c0 := SR.out.cell 0 _ rfl
      have c1 := SR.out.cell 1 _ rfl
      have hlt : g < wr.heap.size := SR.out.lt
      by_cases hin : f ≤ 1 ∧ 1 < t
      · obtain ⟨i1, i2⟩ := hin
        have RK : Hid (Right 1 (runE f t 0 e)) := right_run f t e HRT.out 0 i1 (by omega) h2
        have HE : Hid (upE 1 (runE f t 0 e) = runE f t 1 e) := (if_pos ⟨i1, i2⟩).symm
        go_wp2_with (first
          | ((with_reducible refine guard_load 24 ?_); have FA := FR.out.keep (bnew wr (.cells #[.int .i64 1, .func (.func 16) #[] #[]] 42)); have SA := SR.out.after (bnew wr (.cells #[.int .i64 1, .func (.func 16) #[] #[]] 42)); refine wpList_load_ev rfl _ rfl FA.out.1 rfl ?_)
          | (go_at_call 16; refine (priced_ev _ _ RK.out).mono ?_; rintro _ w8 ⟨rfl, hb8⟩; have FB := FA.out.keep hb8; have SB := SA.out.after hb8; clear FA SA hb8)
          | ((with_reducible refine guard_store 24 ?_); refine wpList_store_ev rfl _ _ rfl FB.out.1 rfl rfl ?_; intro w9 z1 z2 z3 z4; have FC := FB.out.put1 (by omega) (by omega) HT0 z1 z2 z3 z4; have SC : Hid (StepsAt w9 g) := (z3 g (by omega)).trans SB.out; clear FB SB z1 z2 z3 z4))
        go_roundw
        case rel => exact ⟨1, by omega, by go_num, HE.out ▸ FC, SC⟩
        case measure => simp [intOf]
      · have HE : Hid (runE f t 0 e = runE f t 1 e) := (if_neg hin).symm
        have FA := FR.out.keep (bnew wr (.cells #[.int .i64 1, .func (.func 16) #[] #[]] 42))
        have SA := SR.out.after (bnew wr (.cells #[.int .i64 1, .func (.func 16) #[] #[]] 42))
        by_cases i1 : f ≤ 1
        · have i2 : t ≤ 1 := by omega
          have d4 : decide (1 < t) = false := by simp; omega
          clear hin
          go_wp2
          go_roundw
          case rel => exact ⟨1, by omega, by go_num, HE.out ▸ FA, SA⟩
          case measure => simp [intOf]
        · have d4 : decide (f ≤ 1) = false := by simp; omega
          clear hin
          go_wp2
          go_roundw
          case rel => exact ⟨1, by omega, by go_num, HE.out ▸ FA, SA⟩
          case measure => simp [intOf]
    · have c0 := SR.out.cell 2 _ rfl
      have c1 := SR.out.cell 3 _ rfl
      have hlt : g < wr.heap.size := SR.out.lt
      by_cases hin : f ≤ 2 ∧ 2 < t
      · obtain ⟨i1, i2⟩ := hin
        have RK : Hid (Right 2 (runE f t 1 e)) := right_run f t e HRT.out 1 i1 (by omega) h2
        have HE : Hid (upE 2 (runE f t 1 e) = runE f t 2 e) := (if_pos ⟨i1, i2⟩).symm
        go_wp2_with (first
          | ((with_reducible refine guard_load 24 ?_); have FA := FR.out.keep (bnew wr (.cells #[.int .i64 2, .func (.func 17) #[] #[]] 42)); have SA := SR.out.after (bnew wr (.cells #[.int .i64 2, .func (.func 17) #[] #[]] 42)); refine wpList_load_ev rfl _ rfl FA.out.1 rfl ?_)
          | (go_at_call 17; refine (taxed_ev _ _ RK.out FA.out.2.2.2).mono ?_; rintro _ w8 ⟨rfl, hb8⟩; have FB := FA.out.keep hb8; have SB := SA.out.after hb8; clear FA SA hb8)
          | ((with_reducible refine guard_store 24 ?_); refine wpList_store_ev rfl _ _ rfl FB.out.1 rfl rfl ?_; intro w9 z1 z2 z3 z4; have FC := FB.out.put1 (by omega) (by omega) HT0 z1 z2 z3 z4; have SC : Hid (StepsAt w9 g) := (z3 g (by omega)).trans SB.out; clear FB SB z1 z2 z3 z4))
        go_roundw
        case rel => exact ⟨2, by omega, by go_num, HE.out ▸ FC, SC⟩
        case measure => simp [intOf]
      · have HE : Hid (runE f t 1 e = runE f t 2 e) := (if_neg hin).symm
        have FA := FR.out.keep (bnew wr (.cells #[.int .i64 2, .func (.func 17) #[] #[]] 42))
        have SA := SR.out.after (bnew wr (.cells #[.int .i64 2, .func (.func 17) #[] #[]] 42))
        by_cases i1 : f ≤ 2
        · have i2 : t ≤ 2 := by omega
          have d4 : decide (2 < t) = false := by simp; omega
          clear hin
          go_wp2
          go_roundw
          case rel => exact ⟨2, by omega, by go_num, HE.out ▸ FA, SA⟩
          case measure => simp [intOf]
        · have d4 : decide (f ≤ 2) = false := by simp; omega
          clear hin
          go_wp2
          go_roundw
          case rel => exact ⟨2, by omega, by go_num, HE.out ▸ FA, SA⟩
          case measure => simp [intOf]
    · have c0 := SR.out.cell 4 _ rfl
      have c1 := SR.out.cell 5 _ rfl
      have hlt : g < wr.heap.size := SR.out.lt
      by_cases hin : f ≤ 3 ∧ 3 < t
      · obtain ⟨i1, i2⟩ := hin
        have RK : Hid (Right 3 (runE f t 2 e)) := right_run f t e HRT.out 2 i1 (by omega) h2
        have HE : Hid (upE 3 (runE f t 2 e) = runE f t 3 e) := (if_pos ⟨i1, i2⟩).symm
        go_wp2_with (first
          | ((with_reducible refine guard_load 24 ?_); have FA := FR.out.keep (bnew wr (.cells #[.int .i64 3, .func (.func 18) #[] #[]] 42)); have SA := SR.out.after (bnew wr (.cells #[.int .i64 3, .func (.func 18) #[] #[]] 42)); refine wpList_load_ev rfl _ rfl FA.out.1 rfl ?_)
          | (go_at_call 18; refine (named_ev _ _).mono ?_; rintro _ w8 ⟨rfl, hb8⟩; have FB := FA.out.keep hb8; have SB := SA.out.after hb8; clear FA SA hb8)
          | ((with_reducible refine guard_store 24 ?_); refine wpList_store_ev rfl _ _ rfl FB.out.1 rfl rfl ?_; intro w9 z1 z2 z3 z4; have FC := FB.out.put1 (by omega) (by omega) HT0 z1 z2 z3 z4; have SC : Hid (StepsAt w9 g) := (z3 g (by omega)).trans SB.out; clear FB SB z1 z2 z3 z4))
        go_roundw
        case rel => exact ⟨3, by omega, by go_num, HE.out ▸ FC, SC⟩
        case measure => simp [intOf]
      · have HE : Hid (runE f t 2 e = runE f t 3 e) := (if_neg hin).symm
        have FA := FR.out.keep (bnew wr (.cells #[.int .i64 3, .func (.func 18) #[] #[]] 42))
        have SA := SR.out.after (bnew wr (.cells #[.int .i64 3, .func (.func 18) #[] #[]] 42))
        by_cases i1 : f ≤ 3
        · have i2 : t ≤ 3 := by omega
          have d4 : decide (3 < t) = false := by simp; omega
          clear hin
          go_wp2
          go_roundw
          case rel => exact ⟨3, by omega, by go_num, HE.out ▸ FA, SA⟩
          case measure => simp [intOf]
        · have d4 : decide (f ≤ 3) = false := by simp; omega
          clear hin
          go_wp2
          go_roundw
          case rel => exact ⟨3, by omega, by go_num, HE.out ▸ FA, SA⟩
          case measure => simp [intOf]
    · have c0 := SR.out.cell 6 _ rfl
      have c1 := SR.out.cell 7 _ rfl
      have hlt : g < wr.heap.size := SR.out.lt
      by_cases hin : f ≤ 4 ∧ 4 < t
      · obtain ⟨i1, i2⟩ := hin
        have RK : Hid (Right 4 (runE f t 3 e)) := right_run f t e HRT.out 3 i1 (by omega) h2
        have HE : Hid (upE 4 (runE f t 3 e) = runE f t 4 e) := (if_pos ⟨i1, i2⟩).symm
        go_wp2_with (first
          | ((with_reducible refine guard_load 24 ?_); have FA := FR.out.keep (bnew wr (.cells #[.int .i64 4, .func (.func 19) #[] #[]] 42)); have SA := SR.out.after (bnew wr (.cells #[.int .i64 4, .func (.func 19) #[] #[]] 42)); refine wpList_load_ev rfl _ rfl FA.out.1 rfl ?_)
          | (go_at_call 19; refine (cleared_ev _ _).mono ?_; rintro _ w8 ⟨rfl, hb8⟩; have FB := FA.out.keep hb8; have SB := SA.out.after hb8; clear FA SA hb8)
          | ((with_reducible refine guard_store 24 ?_); refine wpList_store_ev rfl _ _ rfl FB.out.1 rfl rfl ?_; intro w9 z1 z2 z3 z4; have FC := FB.out.put1 (by omega) (by omega) HT0 z1 z2 z3 z4; have SC : Hid (StepsAt w9 g) := (z3 g (by omega)).trans SB.out; clear FB SB z1 z2 z3 z4))
        go_roundw
        case rel => exact ⟨4, by omega, by go_num, HE.out ▸ FC, SC⟩
        case measure => simp [intOf]
      · have HE : Hid (runE f t 3 e = runE f t 4 e) := (if_neg hin).symm
        have FA := FR.out.keep (bnew wr (.cells #[.int .i64 4, .func (.func 19) #[] #[]] 42))
        have SA := SR.out.after (bnew wr (.cells #[.int .i64 4, .func (.func 19) #[] #[]] 42))
        by_cases i1 : f ≤ 4
        · have i2 : t ≤ 4 := by omega
          have d4 : decide (4 < t) = false := by simp; omega
          clear hin
          go_wp2
          go_roundw
          case rel => exact ⟨4, by omega, by go_num, HE.out ▸ FA, SA⟩
          case measure => simp [intOf]
        · have d4 : decide (f ≤ 4) = false := by simp; omega
          clear hin
          go_wp2
          go_roundw
          case rel => exact ⟨4, by omega, by go_num, HE.out ▸ FA, SA⟩
          case measure => simp [intOf]
    · go_wp2_with (first
        | ((with_reducible refine guard_load 24 ?_); refine wpList_load_ev rfl _ rfl FR.out.1 rfl ?_)
        | ((with_reducible refine guard_store 24 ?_); refine wpList_store_ev rfl _ _ rfl FR.out.2.1 rfl rfl ?_; intro w9 z1 z2 z3 z4; have FQ := FR.out.put2 (by omega) (by omega) HT0 z1 z2 z3 z4; clear FR z1 z2 z3 z4; have FR := FQ; clear FQ))
      exact bodyPost_ret (v := .tuple #[.agg (evA (toE f t e)), .int .i64 0]) (results_ev Tryd.results10 _ _ _ _ _ rfl rfl FR.out.2.1) rfl ⟨rfl, FR.out.2.2.1⟩
end Go.Proofs.YtbgdkpkeghnmmaaDoor
