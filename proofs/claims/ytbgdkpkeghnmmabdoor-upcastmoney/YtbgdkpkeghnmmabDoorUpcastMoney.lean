/- The steps, without the reference: what is worth something in version 1 is worth a hundred times as much, and nothing else of the money turns: for every version and event. -/
import Derived.Test.YtbgdkpkeghnmmabDoorHead07
import Derived.Test.YtbgdkpkeghnmmabDoorTaxTie
import Derived.SizedLaws
import Derived.ChangeOld
namespace Go.Proofs.YtbgdkpkeghnmmabDoor.upcastMoney
open Go.ChangeShapes Go.WideShapes Go.ChangeAt Go.RowKit
set_option linter.unusedVariables false
theorem five {v : Int} (h1 : 1 ≤ v) (h5 : v ≤ 5) : v = 1 ∨ v = 2 ∨ v = 3 ∨ v = 4 ∨ v = 5 := by omega
theorem rest_of (v : Int) (e : Ev) : (chainE v e).cur = e.cur ∧ (chainE v e).stamp = e.stamp ∧ (chainE v e).note = e.note := by
  unfold chainE
  repeat (split; · exact ⟨rfl, rfl, rfl⟩)
  exact ⟨rfl, rfl, rfl⟩
theorem price_of (v : Int) (e : Ev) : (chainE v e).price = if v = 1 then 100 * e.price else e.price := by
  unfold chainE
  split
  · show e.price * 100 = _; omega
  · repeat (split; · rfl)
    rfl
theorem qty_of (v : Int) (e : Ev) (h1 : 1 ≤ v) (h5 : v ≤ 5) : (chainE v e).qty = if v < 3 then (taxE e).qty else e.qty := by
  rcases five h1 h5 with rfl | rfl | rfl | rfl | rfl <;> rfl
theorem qty_low (e : Ev) (h : e.qty < 0) (hk : e.kind ≠ 2) : (taxE e).qty = 0 := by
  show (if drpB e.kind e.qty = true then -e.qty else if e.qty < 0 then 0 else e.qty) = 0
  rw [if_neg (by simp [drpB, hk]), if_pos h]
theorem qty_drop (e : Ev) (h : e.qty < 0) (hk : e.kind = 2) : (taxE e).qty = -e.qty := by
  show (if drpB e.kind e.qty = true then -e.qty else if e.qty < 0 then 0 else e.qty) = -e.qty
  rw [if_pos (by simp [drpB, hk, h])]
theorem qty_same (e : Ev) (h : 0 ≤ e.qty) : (taxE e).qty = e.qty := by
  show (if drpB e.kind e.qty = true then -e.qty else if e.qty < 0 then 0 else e.qty) = e.qty
  rw [if_neg (by simp [drpB]; omega), if_neg (by omega)]
def Two (w wr : World) (b : Nat) (e : Ev) : Prop := EvAt wr b e ∧ Below w.heap.size w wr ∧ Tax wr
theorem Two.start (w : World) (e : Ev) (ht : Tax w) : Hid (Two w (w.alloc (.cells (evA e) 24)) w.heap.size e) :=
  ⟨evAt_new w e, (Below.refl _ _).alloc (Nat.le_refl _) _, ht.keep ((Below.refl _ _).alloc (Nat.le_refl _) _)⟩
theorem Two.keep {w w1 w2 : World} {b : Nat} {e : Ev} (h : Two w w1 b e) (hb : Below w1.heap.size w1 w2) : Hid (Two w w2 b e) := ⟨h.1.after hb, h.2.1.trans (hb.mono h.2.1.size), h.2.2.keep hb⟩
theorem Two.more {w w1 w2 : World} {b : Nat} {e : Ev} {O : Obj} (h : Two w w1 b e) (hz2 : ∀ B a, Below B a (w1.alloc O) → B ≤ w1.heap.size → Below B a w2) : EvAt w2 b e ∧ Below w.heap.size w w2 := by
  have hb : Below w1.heap.size w1 w2 := hz2 _ _ ((Below.refl _ _).alloc (Nat.le_refl _) _) (Nat.le_refl _)
  exact ⟨h.1.after hb, h.2.1.trans (hb.mono h.2.1.size)⟩
set_option maxRecDepth 20000 in
set_option maxHeartbeats 2000000 in
theorem walk_no (v : Int) (e : Ev) (w : World) (ht : Tax w) (hc : (chk v e != 0) = true) :
    Calls Tryd.prog 3 #[.int .i64 v, .agg (evA e)] w fun x w' => x = .returned (.bool true) ∧ Below w.heap.size w w' := by
  have FR := Two.start w e ht
  have HCN : Hid ((chk v e != 0) = true) := hc
  obtain ⟨r, HC⟩ : ∃ r, Hid (chk v e = r) := ⟨_, rfl⟩
  rw [HC.out] at hc
  clear ht
  go_enter Tryd.func3, Tryd.ntmps3
  go_wp2_with (first
    | ((with_reducible refine guard_load 24 ?_); refine wpList_load_ev rfl _ rfl FR.out.1 rfl ?_)
    | (go_at_call 4; refine (head07_any _ FR.out.2.2).mono ?_; rintro _ w8 ⟨rfl, hb8⟩; have FQ := FR.out.keep hb8; clear FR hb8; have FR := FQ; clear FQ)
    | (go_at_call 5; refine (chain_no v e _ FR.out.2.2 HCN.out).mono ?_; rw [HC.out]; rintro _ w7 ⟨rfl, hb7⟩; have FQ := FR.out.keep hb7; clear FR hb7; have FR := FQ; clear FQ)
    | ((with_reducible refine guard_store 24 ?_); refine wpList_store_ev (e := zeroE) (e2 := zeroE) rfl _ _ rfl (evAt_new w7 zeroE) rfl rfl ?_; intro w9 z1 z2 z3 z4; obtain ⟨y1, y2⟩ := FR.out.more z2; have HB9 : Hid (Below w.heap.size w w9) := y2; clear FR z2 z3 z4 y2; clear y1 z1))
  go_ret
  exact ⟨rfl, HB9.out⟩
set_option maxRecDepth 20000 in
set_option maxHeartbeats 2000000 in
theorem walk_a_low (e : Ev) (w : World) (ht : Tax w) (hc : chk 1 e = 0) (hq : e.qty < 0) (hk : e.kind ≠ 2) :
    Calls Tryd.prog 3 #[.int .i64 1, .agg (evA e)] w fun x w' => x = .returned (.bool true) ∧ Below w.heap.size w w' := by
  have FR := Two.start w e ht
  have HC : Hid (chk 1 e = 0) := hc
  have HRT : Hid (Right 1 e) := right_of hc
  have HP : Hid ((chainE 1 e).price = 100 * e.price) := by show _ = _; rw [price_of]; exact if_pos rfl
  have HQ : Hid ((chainE 1 e).qty = 0) := by show _ = _; rw [qty_of _ _ (by omega) (by omega), if_pos (by omega)]; exact qty_low e hq hk
  obtain ⟨hcu, hst, hno⟩ := rest_of 1 e
  have HCU : Hid (_) := hcu
  have HST : Hid (_) := hst
  have HNO : Hid (_) := hno
  clear hcu hst hno
  have hk2 : (e.kind != 2) = true := by simpa using hk
  clear hk
  have hp0 := HRT.out.price0
  have hp1 : e.price ≤ 100000000 := by have := HRT.out.price1; unfold hiP at this; split at this <;> omega
  have hq0' : -10000 ≤ e.qty := by have := HRT.out.qty0; unfold loQ at this; split at this <;> omega
  have hq1' := HRT.out.qty1
  clear ht hc
  go_enter Tryd.func3, Tryd.ntmps3
  go_wp2_with (first
    | ((with_reducible refine guard_load 24 ?_); refine wpList_load_ev rfl _ rfl FR.out.1 rfl ?_)
    | (go_at_call 4; refine (head07_any _ FR.out.2.2).mono ?_; rintro _ w8 ⟨rfl, hb8⟩; have FQ := FR.out.keep hb8; clear FR hb8; have FR := FQ; clear FQ)
    | (go_at_call 5; refine (chain_ok 1 e _ FR.out.2.2 HC.out).mono ?_; rintro _ w7 ⟨rfl, hb7⟩; have FQ := FR.out.keep hb7; clear FR hb7; have FR := FQ; clear FQ)
    | ((with_reducible refine guard_store 24 ?_); refine wpList_store_ev (e := zeroE) (e2 := chainE 1 e) rfl _ _ rfl (evAt_new w7 zeroE) rfl rfl ?_; intro w9 z1 z2 z3 z4; obtain ⟨y1, y2⟩ := FR.out.more z2; have HB9 : Hid (Below w.heap.size w w9) := y2; clear FR z2 z3 z4 y2; have k0 := y1.cell 0 (.int .i64 e.kind) rfl; have k3 := y1.cell 3 (.int .i64 e.qty) rfl; have k4 := y1.cell 4 (.int .i64 e.price) rfl; have k5 := y1.cell 5 (.int .i64 e.cur) rfl; have k8 := y1.cell 8 (.int .i64 e.stamp) rfl; have k9 := y1.cell 9 (.string e.note) rfl; have j3 := z1.cell 3 (.int .i64 (chainE 1 e).qty) rfl; have j4 := z1.cell 4 (.int .i64 (chainE 1 e).price) rfl; have j5 := z1.cell 5 (.int .i64 (chainE 1 e).cur) rfl; have j8 := z1.cell 8 (.int .i64 (chainE 1 e).stamp) rfl; have j9 := z1.cell 9 (.string (chainE 1 e).note) rfl; rw [HQ.out] at j3; rw [HP.out] at j4; rw [HCU.out] at j5; rw [HST.out] at j8; rw [HNO.out] at j9; clear y1 z1))
  all_goals
    go_ret
    refine ⟨ret_bool ?_, HB9.out⟩
    first | rfl | (simp; done)
set_option maxRecDepth 20000 in
set_option maxHeartbeats 2000000 in
theorem walk_a_drop (e : Ev) (w : World) (ht : Tax w) (hc : chk 1 e = 0) (hq : e.qty < 0) (hk : e.kind = 2) :
    Calls Tryd.prog 3 #[.int .i64 1, .agg (evA e)] w fun x w' => x = .returned (.bool true) ∧ Below w.heap.size w w' := by
  have FR := Two.start w e ht
  have HC : Hid (chk 1 e = 0) := hc
  have HRT : Hid (Right 1 e) := right_of hc
  have HP : Hid ((chainE 1 e).price = 100 * e.price) := by show _ = _; rw [price_of]; exact if_pos rfl
  have HQ : Hid ((chainE 1 e).qty = -e.qty) := by show _ = _; rw [qty_of _ _ (by omega) (by omega), if_pos (by omega)]; exact qty_drop e hq hk
  obtain ⟨hcu, hst, hno⟩ := rest_of 1 e
  have HCU : Hid (_) := hcu
  have HST : Hid (_) := hst
  have HNO : Hid (_) := hno
  clear hcu hst hno
  have hk2 : (e.kind != 2) = false := by simpa using hk
  clear hk
  have hp0 := HRT.out.price0
  have hp1 : e.price ≤ 100000000 := by have := HRT.out.price1; unfold hiP at this; split at this <;> omega
  have hq0' : -10000 ≤ e.qty := by have := HRT.out.qty0; unfold loQ at this; split at this <;> omega
  have hq1' := HRT.out.qty1
  clear ht hc
  go_enter Tryd.func3, Tryd.ntmps3
  go_wp2_with (first
    | ((with_reducible refine guard_load 24 ?_); refine wpList_load_ev rfl _ rfl FR.out.1 rfl ?_)
    | (go_at_call 4; refine (head07_any _ FR.out.2.2).mono ?_; rintro _ w8 ⟨rfl, hb8⟩; have FQ := FR.out.keep hb8; clear FR hb8; have FR := FQ; clear FQ)
    | (go_at_call 5; refine (chain_ok 1 e _ FR.out.2.2 HC.out).mono ?_; rintro _ w7 ⟨rfl, hb7⟩; have FQ := FR.out.keep hb7; clear FR hb7; have FR := FQ; clear FQ)
    | ((with_reducible refine guard_store 24 ?_); refine wpList_store_ev (e := zeroE) (e2 := chainE 1 e) rfl _ _ rfl (evAt_new w7 zeroE) rfl rfl ?_; intro w9 z1 z2 z3 z4; obtain ⟨y1, y2⟩ := FR.out.more z2; have HB9 : Hid (Below w.heap.size w w9) := y2; clear FR z2 z3 z4 y2; have k0 := y1.cell 0 (.int .i64 e.kind) rfl; have k3 := y1.cell 3 (.int .i64 e.qty) rfl; have k4 := y1.cell 4 (.int .i64 e.price) rfl; have k5 := y1.cell 5 (.int .i64 e.cur) rfl; have k8 := y1.cell 8 (.int .i64 e.stamp) rfl; have k9 := y1.cell 9 (.string e.note) rfl; have j3 := z1.cell 3 (.int .i64 (chainE 1 e).qty) rfl; have j4 := z1.cell 4 (.int .i64 (chainE 1 e).price) rfl; have j5 := z1.cell 5 (.int .i64 (chainE 1 e).cur) rfl; have j8 := z1.cell 8 (.int .i64 (chainE 1 e).stamp) rfl; have j9 := z1.cell 9 (.string (chainE 1 e).note) rfl; rw [HQ.out] at j3; rw [HP.out] at j4; rw [HCU.out] at j5; rw [HST.out] at j8; rw [HNO.out] at j9; clear y1 z1))
  all_goals
    go_ret
    refine ⟨ret_bool ?_, HB9.out⟩
    first | rfl | (simp; done)
set_option maxRecDepth 20000 in
set_option maxHeartbeats 2000000 in
theorem walk_a_same (e : Ev) (w : World) (ht : Tax w) (hc : chk 1 e = 0) (hq : 0 ≤ e.qty) :
    Calls Tryd.prog 3 #[.int .i64 1, .agg (evA e)] w fun x w' => x = .returned (.bool true) ∧ Below w.heap.size w w' := by
  have FR := Two.start w e ht
  have HC : Hid (chk 1 e = 0) := hc
  have HRT : Hid (Right 1 e) := right_of hc
  have HP : Hid ((chainE 1 e).price = 100 * e.price) := by show _ = _; rw [price_of]; exact if_pos rfl
  have HQ : Hid ((chainE 1 e).qty = e.qty) := by show _ = _; rw [qty_of _ _ (by omega) (by omega), if_pos (by omega)]; exact qty_same e hq
  obtain ⟨hcu, hst, hno⟩ := rest_of 1 e
  have HCU : Hid (_) := hcu
  have HST : Hid (_) := hst
  have HNO : Hid (_) := hno
  clear hcu hst hno
  have hq2 : decide (e.qty < 0) = false := by simp; omega
  have hp0 := HRT.out.price0
  have hp1 : e.price ≤ 100000000 := by have := HRT.out.price1; unfold hiP at this; split at this <;> omega
  have hq0' : -10000 ≤ e.qty := by have := HRT.out.qty0; unfold loQ at this; split at this <;> omega
  have hq1' := HRT.out.qty1
  clear ht hc
  go_enter Tryd.func3, Tryd.ntmps3
  go_wp2_with (first
    | ((with_reducible refine guard_load 24 ?_); refine wpList_load_ev rfl _ rfl FR.out.1 rfl ?_)
    | (go_at_call 4; refine (head07_any _ FR.out.2.2).mono ?_; rintro _ w8 ⟨rfl, hb8⟩; have FQ := FR.out.keep hb8; clear FR hb8; have FR := FQ; clear FQ)
    | (go_at_call 5; refine (chain_ok 1 e _ FR.out.2.2 HC.out).mono ?_; rintro _ w7 ⟨rfl, hb7⟩; have FQ := FR.out.keep hb7; clear FR hb7; have FR := FQ; clear FQ)
    | ((with_reducible refine guard_store 24 ?_); refine wpList_store_ev (e := zeroE) (e2 := chainE 1 e) rfl _ _ rfl (evAt_new w7 zeroE) rfl rfl ?_; intro w9 z1 z2 z3 z4; obtain ⟨y1, y2⟩ := FR.out.more z2; have HB9 : Hid (Below w.heap.size w w9) := y2; clear FR z2 z3 z4 y2; have k0 := y1.cell 0 (.int .i64 e.kind) rfl; have k3 := y1.cell 3 (.int .i64 e.qty) rfl; have k4 := y1.cell 4 (.int .i64 e.price) rfl; have k5 := y1.cell 5 (.int .i64 e.cur) rfl; have k8 := y1.cell 8 (.int .i64 e.stamp) rfl; have k9 := y1.cell 9 (.string e.note) rfl; have j3 := z1.cell 3 (.int .i64 (chainE 1 e).qty) rfl; have j4 := z1.cell 4 (.int .i64 (chainE 1 e).price) rfl; have j5 := z1.cell 5 (.int .i64 (chainE 1 e).cur) rfl; have j8 := z1.cell 8 (.int .i64 (chainE 1 e).stamp) rfl; have j9 := z1.cell 9 (.string (chainE 1 e).note) rfl; rw [HQ.out] at j3; rw [HP.out] at j4; rw [HCU.out] at j5; rw [HST.out] at j8; rw [HNO.out] at j9; clear y1 z1))
  all_goals
    go_ret
    refine ⟨ret_bool ?_, HB9.out⟩
    first | rfl | (simp; done)
set_option maxRecDepth 20000 in
set_option maxHeartbeats 2000000 in
theorem walk_b_low (e : Ev) (w : World) (ht : Tax w) (hc : chk 2 e = 0) (hq : e.qty < 0) (hk : e.kind ≠ 2) :
    Calls Tryd.prog 3 #[.int .i64 2, .agg (evA e)] w fun x w' => x = .returned (.bool true) ∧ Below w.heap.size w w' := by
  have FR := Two.start w e ht
  have HC : Hid (chk 2 e = 0) := hc
  have HRT : Hid (Right 2 e) := right_of hc
  have HP : Hid ((chainE 2 e).price = e.price) := by show _ = _; rw [price_of]; exact if_neg (by omega)
  have HQ : Hid ((chainE 2 e).qty = 0) := by show _ = _; rw [qty_of _ _ (by omega) (by omega), if_pos (by omega)]; exact qty_low e hq hk
  obtain ⟨hcu, hst, hno⟩ := rest_of 2 e
  have HCU : Hid (_) := hcu
  have HST : Hid (_) := hst
  have HNO : Hid (_) := hno
  clear hcu hst hno
  have hk2 : (e.kind != 2) = true := by simpa using hk
  clear hk
  have hp0 := HRT.out.price0
  have hp1 : e.price ≤ 100000000 := by have := HRT.out.price1; unfold hiP at this; split at this <;> omega
  have hq0' : -10000 ≤ e.qty := by have := HRT.out.qty0; unfold loQ at this; split at this <;> omega
  have hq1' := HRT.out.qty1
  clear ht hc
  go_enter Tryd.func3, Tryd.ntmps3
  go_wp2_with (first
    | ((with_reducible refine guard_load 24 ?_); refine wpList_load_ev rfl _ rfl FR.out.1 rfl ?_)
    | (go_at_call 4; refine (head07_any _ FR.out.2.2).mono ?_; rintro _ w8 ⟨rfl, hb8⟩; have FQ := FR.out.keep hb8; clear FR hb8; have FR := FQ; clear FQ)
    | (go_at_call 5; refine (chain_ok 2 e _ FR.out.2.2 HC.out).mono ?_; rintro _ w7 ⟨rfl, hb7⟩; have FQ := FR.out.keep hb7; clear FR hb7; have FR := FQ; clear FQ)
    | ((with_reducible refine guard_store 24 ?_); refine wpList_store_ev (e := zeroE) (e2 := chainE 2 e) rfl _ _ rfl (evAt_new w7 zeroE) rfl rfl ?_; intro w9 z1 z2 z3 z4; obtain ⟨y1, y2⟩ := FR.out.more z2; have HB9 : Hid (Below w.heap.size w w9) := y2; clear FR z2 z3 z4 y2; have k0 := y1.cell 0 (.int .i64 e.kind) rfl; have k3 := y1.cell 3 (.int .i64 e.qty) rfl; have k4 := y1.cell 4 (.int .i64 e.price) rfl; have k5 := y1.cell 5 (.int .i64 e.cur) rfl; have k8 := y1.cell 8 (.int .i64 e.stamp) rfl; have k9 := y1.cell 9 (.string e.note) rfl; have j3 := z1.cell 3 (.int .i64 (chainE 2 e).qty) rfl; have j4 := z1.cell 4 (.int .i64 (chainE 2 e).price) rfl; have j5 := z1.cell 5 (.int .i64 (chainE 2 e).cur) rfl; have j8 := z1.cell 8 (.int .i64 (chainE 2 e).stamp) rfl; have j9 := z1.cell 9 (.string (chainE 2 e).note) rfl; rw [HQ.out] at j3; rw [HP.out] at j4; rw [HCU.out] at j5; rw [HST.out] at j8; rw [HNO.out] at j9; clear y1 z1))
  all_goals
    go_ret
    refine ⟨ret_bool ?_, HB9.out⟩
    first | rfl | (simp; done)
set_option maxRecDepth 20000 in
set_option maxHeartbeats 2000000 in
theorem walk_b_drop (e : Ev) (w : World) (ht : Tax w) (hc : chk 2 e = 0) (hq : e.qty < 0) (hk : e.kind = 2) :
    Calls Tryd.prog 3 #[.int .i64 2, .agg (evA e)] w fun x w' => x = .returned (.bool true) ∧ Below w.heap.size w w' := by
  have FR := Two.start w e ht
  have HC : Hid (chk 2 e = 0) := hc
  have HRT : Hid (Right 2 e) := right_of hc
  have HP : Hid ((chainE 2 e).price = e.price) := by show _ = _; rw [price_of]; exact if_neg (by omega)
  have HQ : Hid ((chainE 2 e).qty = -e.qty) := by show _ = _; rw [qty_of _ _ (by omega) (by omega), if_pos (by omega)]; exact qty_drop e hq hk
  obtain ⟨hcu, hst, hno⟩ := rest_of 2 e
  have HCU : Hid (_) := hcu
  have HST : Hid (_) := hst
  have HNO : Hid (_) := hno
  clear hcu hst hno
  have hk2 : (e.kind != 2) = false := by simpa using hk
  clear hk
  have hp0 := HRT.out.price0
  have hp1 : e.price ≤ 100000000 := by have := HRT.out.price1; unfold hiP at this; split at this <;> omega
  have hq0' : -10000 ≤ e.qty := by have := HRT.out.qty0; unfold loQ at this; split at this <;> omega
  have hq1' := HRT.out.qty1
  clear ht hc
  go_enter Tryd.func3, Tryd.ntmps3
  go_wp2_with (first
    | ((with_reducible refine guard_load 24 ?_); refine wpList_load_ev rfl _ rfl FR.out.1 rfl ?_)
    | (go_at_call 4; refine (head07_any _ FR.out.2.2).mono ?_; rintro _ w8 ⟨rfl, hb8⟩; have FQ := FR.out.keep hb8; clear FR hb8; have FR := FQ; clear FQ)
    | (go_at_call 5; refine (chain_ok 2 e _ FR.out.2.2 HC.out).mono ?_; rintro _ w7 ⟨rfl, hb7⟩; have FQ := FR.out.keep hb7; clear FR hb7; have FR := FQ; clear FQ)
    | ((with_reducible refine guard_store 24 ?_); refine wpList_store_ev (e := zeroE) (e2 := chainE 2 e) rfl _ _ rfl (evAt_new w7 zeroE) rfl rfl ?_; intro w9 z1 z2 z3 z4; obtain ⟨y1, y2⟩ := FR.out.more z2; have HB9 : Hid (Below w.heap.size w w9) := y2; clear FR z2 z3 z4 y2; have k0 := y1.cell 0 (.int .i64 e.kind) rfl; have k3 := y1.cell 3 (.int .i64 e.qty) rfl; have k4 := y1.cell 4 (.int .i64 e.price) rfl; have k5 := y1.cell 5 (.int .i64 e.cur) rfl; have k8 := y1.cell 8 (.int .i64 e.stamp) rfl; have k9 := y1.cell 9 (.string e.note) rfl; have j3 := z1.cell 3 (.int .i64 (chainE 2 e).qty) rfl; have j4 := z1.cell 4 (.int .i64 (chainE 2 e).price) rfl; have j5 := z1.cell 5 (.int .i64 (chainE 2 e).cur) rfl; have j8 := z1.cell 8 (.int .i64 (chainE 2 e).stamp) rfl; have j9 := z1.cell 9 (.string (chainE 2 e).note) rfl; rw [HQ.out] at j3; rw [HP.out] at j4; rw [HCU.out] at j5; rw [HST.out] at j8; rw [HNO.out] at j9; clear y1 z1))
  all_goals
    go_ret
    refine ⟨ret_bool ?_, HB9.out⟩
    first | rfl | (simp; done)
set_option maxRecDepth 20000 in
set_option maxHeartbeats 2000000 in
theorem walk_b_same (e : Ev) (w : World) (ht : Tax w) (hc : chk 2 e = 0) (hq : 0 ≤ e.qty) :
    Calls Tryd.prog 3 #[.int .i64 2, .agg (evA e)] w fun x w' => x = .returned (.bool true) ∧ Below w.heap.size w w' := by
  have FR := Two.start w e ht
  have HC : Hid (chk 2 e = 0) := hc
  have HRT : Hid (Right 2 e) := right_of hc
  have HP : Hid ((chainE 2 e).price = e.price) := by show _ = _; rw [price_of]; exact if_neg (by omega)
  have HQ : Hid ((chainE 2 e).qty = e.qty) := by show _ = _; rw [qty_of _ _ (by omega) (by omega), if_pos (by omega)]; exact qty_same e hq
  obtain ⟨hcu, hst, hno⟩ := rest_of 2 e
  have HCU : Hid (_) := hcu
  have HST : Hid (_) := hst
  have HNO : Hid (_) := hno
  clear hcu hst hno
  have hq2 : decide (e.qty < 0) = false := by simp; omega
  have hp0 := HRT.out.price0
  have hp1 : e.price ≤ 100000000 := by have := HRT.out.price1; unfold hiP at this; split at this <;> omega
  have hq0' : -10000 ≤ e.qty := by have := HRT.out.qty0; unfold loQ at this; split at this <;> omega
  have hq1' := HRT.out.qty1
  clear ht hc
  go_enter Tryd.func3, Tryd.ntmps3
  go_wp2_with (first
    | ((with_reducible refine guard_load 24 ?_); refine wpList_load_ev rfl _ rfl FR.out.1 rfl ?_)
    | (go_at_call 4; refine (head07_any _ FR.out.2.2).mono ?_; rintro _ w8 ⟨rfl, hb8⟩; have FQ := FR.out.keep hb8; clear FR hb8; have FR := FQ; clear FQ)
    | (go_at_call 5; refine (chain_ok 2 e _ FR.out.2.2 HC.out).mono ?_; rintro _ w7 ⟨rfl, hb7⟩; have FQ := FR.out.keep hb7; clear FR hb7; have FR := FQ; clear FQ)
    | ((with_reducible refine guard_store 24 ?_); refine wpList_store_ev (e := zeroE) (e2 := chainE 2 e) rfl _ _ rfl (evAt_new w7 zeroE) rfl rfl ?_; intro w9 z1 z2 z3 z4; obtain ⟨y1, y2⟩ := FR.out.more z2; have HB9 : Hid (Below w.heap.size w w9) := y2; clear FR z2 z3 z4 y2; have k0 := y1.cell 0 (.int .i64 e.kind) rfl; have k3 := y1.cell 3 (.int .i64 e.qty) rfl; have k4 := y1.cell 4 (.int .i64 e.price) rfl; have k5 := y1.cell 5 (.int .i64 e.cur) rfl; have k8 := y1.cell 8 (.int .i64 e.stamp) rfl; have k9 := y1.cell 9 (.string e.note) rfl; have j3 := z1.cell 3 (.int .i64 (chainE 2 e).qty) rfl; have j4 := z1.cell 4 (.int .i64 (chainE 2 e).price) rfl; have j5 := z1.cell 5 (.int .i64 (chainE 2 e).cur) rfl; have j8 := z1.cell 8 (.int .i64 (chainE 2 e).stamp) rfl; have j9 := z1.cell 9 (.string (chainE 2 e).note) rfl; rw [HQ.out] at j3; rw [HP.out] at j4; rw [HCU.out] at j5; rw [HST.out] at j8; rw [HNO.out] at j9; clear y1 z1))
  all_goals
    go_ret
    refine ⟨ret_bool ?_, HB9.out⟩
    first | rfl | (simp; done)
set_option maxRecDepth 20000 in
set_option maxHeartbeats 2000000 in
theorem walk_c_any (v : Int) (hv : 3 ≤ v) (e : Ev) (w : World) (ht : Tax w) (hc : chk v e = 0)  :
    Calls Tryd.prog 3 #[.int .i64 v, .agg (evA e)] w fun x w' => x = .returned (.bool true) ∧ Below w.heap.size w w' := by
  have FR := Two.start w e ht
  have HC : Hid (chk v e = 0) := hc
  have HRT : Hid (Right v e) := right_of hc
  have HP : Hid ((chainE v e).price = e.price) := by show _ = _; rw [price_of]; exact if_neg (by omega)
  have HQ : Hid ((chainE v e).qty = e.qty) := by show _ = _; rw [qty_of _ _ (by omega) HRT.out.v5, if_neg (by omega)]
  obtain ⟨hcu, hst, hno⟩ := rest_of v e
  have HCU : Hid (_) := hcu
  have HST : Hid (_) := hst
  have HNO : Hid (_) := hno
  clear hcu hst hno
  have hv1 : (v == 1) = false := by simp; omega
  have hv3 : decide (v < 3) = false := by simp; omega
  have hp0 := HRT.out.price0
  have hp1 : e.price ≤ 100000000 := by have := HRT.out.price1; unfold hiP at this; split at this <;> omega
  have hq0' : -10000 ≤ e.qty := by have := HRT.out.qty0; unfold loQ at this; split at this <;> omega
  have hq1' := HRT.out.qty1
  clear ht hc
  go_enter Tryd.func3, Tryd.ntmps3
  go_wp2_with (first
    | ((with_reducible refine guard_load 24 ?_); refine wpList_load_ev rfl _ rfl FR.out.1 rfl ?_)
    | (go_at_call 4; refine (head07_any _ FR.out.2.2).mono ?_; rintro _ w8 ⟨rfl, hb8⟩; have FQ := FR.out.keep hb8; clear FR hb8; have FR := FQ; clear FQ)
    | (go_at_call 5; refine (chain_ok v e _ FR.out.2.2 HC.out).mono ?_; rintro _ w7 ⟨rfl, hb7⟩; have FQ := FR.out.keep hb7; clear FR hb7; have FR := FQ; clear FQ)
    | ((with_reducible refine guard_store 24 ?_); refine wpList_store_ev (e := zeroE) (e2 := chainE v e) rfl _ _ rfl (evAt_new w7 zeroE) rfl rfl ?_; intro w9 z1 z2 z3 z4; obtain ⟨y1, y2⟩ := FR.out.more z2; have HB9 : Hid (Below w.heap.size w w9) := y2; clear FR z2 z3 z4 y2; have k0 := y1.cell 0 (.int .i64 e.kind) rfl; have k3 := y1.cell 3 (.int .i64 e.qty) rfl; have k4 := y1.cell 4 (.int .i64 e.price) rfl; have k5 := y1.cell 5 (.int .i64 e.cur) rfl; have k8 := y1.cell 8 (.int .i64 e.stamp) rfl; have k9 := y1.cell 9 (.string e.note) rfl; have j3 := z1.cell 3 (.int .i64 (chainE v e).qty) rfl; have j4 := z1.cell 4 (.int .i64 (chainE v e).price) rfl; have j5 := z1.cell 5 (.int .i64 (chainE v e).cur) rfl; have j8 := z1.cell 8 (.int .i64 (chainE v e).stamp) rfl; have j9 := z1.cell 9 (.string (chainE v e).note) rfl; rw [HQ.out] at j3; rw [HP.out] at j4; rw [HCU.out] at j5; rw [HST.out] at j8; rw [HNO.out] at j9; clear y1 z1))
  all_goals
    go_ret
    refine ⟨ret_bool ?_, HB9.out⟩
    first | rfl | (simp; done)
theorem walk (v : Int) (e : Ev) (w : World) (w0 : (Lit.int .i64 v).wf = true) (w1 : e.Fit) (ht : Tax w) :
    Calls Tryd.prog 3 #[.int .i64 v, .agg (evA e)] w fun x w' => x = .returned (.bool true) ∧ Below w.heap.size w w' := by
  by_cases hc : chk v e = 0
  · have r := right_of hc
    by_cases h3 : 3 ≤ v
    · exact walk_c_any v h3 e w ht hc
    · have hv : v = 1 ∨ v = 2 := by have := r.v1; omega
      by_cases hq : e.qty < 0
      · by_cases hk : e.kind = 2
        · rcases hv with rfl | rfl
          · exact walk_a_drop e w ht hc hq hk
          · exact walk_b_drop e w ht hc hq hk
        · rcases hv with rfl | rfl
          · exact walk_a_low e w ht hc hq hk
          · exact walk_b_low e w ht hc hq hk
      · rcases hv with rfl | rfl
        · exact walk_a_same e w ht hc (by omega)
        · exact walk_b_same e w ht hc (by omega)
  · exact walk_no v e w ht (by simpa using hc)
theorem own : ownKnob Tryd.prog.godebug = none := by kernel_rfl
theorem laidOut : laidOutB Tryd.prog = true := by kernel_rfl
set_option maxRecDepth 100000 in
theorem contract (H : Type) (enc : TypeId × Value → H) (W : World) (base : Nat) (args : Array Value) (ds gs : List (DataW H)) (before : List MemPlace)
    (hval : ∀ (j : Nat) t v, Tryd.f3.params[j]? = some t → args[j]? = some v → Value.okWide Tryd.prog W .any base t v)
    (hW : DataW.Whole enc Tryd.prog Tryd.f3.params.toList Rows.upcastMoneySpec.vars false W args.toList ds gs before)
    (hsz : (DataW.weightsEach Tryd.prog (Tryd.f3.params.toList ++ Rows.upcastMoneySpec.plain.varTypes Tryd.prog) (ds ++ gs)).all (· ≤ reachBytes) = true) (hL : laidMetH Tryd.prog [("daybook/upcast.taxes", Rows.laid_daybook_upcast_taxes)] W) :
    Calls Tryd.prog 3 args W fun e W' => ∃ v, e = .returned v ∧ Rows.upcastMoneySpec.post enc Tryd.prog Tryd.f3 false true false false W args v W' := by
  have hW' := hW
  obtain ⟨p, q, hA0, hV, rfl, hfz, hnd⟩ := hW
  have hA : DataW.TrodAll enc Tryd.prog W 0 (fun _ => true) true Tryd.f3.params.toList args.toList ds p := hA0
  rw [Tryd.params3] at hA hval hsz
  obtain ⟨v0, vs0, d0, ds0, p0, q0, hargs, rfl, rfl, h0, r0⟩ := trodAll_cons hA
  obtain ⟨v1, vs1, d1, ds1, p1, q1, rfl, rfl, rfl, h1, r1⟩ := trodAll_cons r0
  obtain ⟨rfl, rfl, rfl⟩ := trodAll_nil r1
  obtain rfl : args = #[v0, v1] := by cases args; simp_all
  obtain ⟨rfl, rfl⟩ := trodVars_none hV
  obtain ⟨a0, rfl, rfl, rfl, w0⟩ := open_int Tryd.underlying3 (hval 0 3 v0 rfl rfl) h0
  have k1 := h1
  have lt1 : ∀ x ∈ p1, x.block < W.heap.size := by obtain ⟨m, hm⟩ := k1; exact DataW.trod_lt m _ _ _ hm
  obtain ⟨a1, rfl, _, w1⟩ := open_event Tryd.underlying24 (by kernel_rfl) (by kernel_rfl) (by kernel_rfl) (by kernel_rfl) (by kernel_rfl) (by kernel_rfl) (by kernel_rfl) (by kernel_rfl) (by kernel_rfl) (by kernel_rfl) (by kernel_rfl) (by kernel_rfl) (hval 1 24 v1 rfl rfl) h1
  clear hA0
  refine (walk a0 a1 W w0 w1 (tax_of hL)).mono fun e W' ⟨he, bel⟩ => ?_
  subst he
  exact ⟨_, rfl, _, _, _, [], _, [], hW', trodAll_mk1 (shut_bool Tryd.underlying4 _), (trodAll_cons_mk (shut_int Tryd.underlying3 w0) (trodAll_cons_mk (Below.trod laidOut (by kernel_rfl) (of_decide_eq_true (by kernel_rfl)) k1 bel lt1) trodAll_mk0)), rfl, bel.frame _, fun h => by cases h⟩
set_option maxRecDepth 100000 in
theorem start (os : Os) : ∃ w0 : World, w0.os = os ∧ (w0.forCall (fun _ _ => 0) ⟨#[], #[.int .i64 0, .agg #[.int .i64 0, .int .i64 0, .int .i64 0, .int .i64 0, .int .i64 0, .int .i64 0, .int .i64 0, .string ⟨#[]⟩, .int .i64 0, .string ⟨#[]⟩]], []⟩).variablesB Tryd.prog = true ∧
    ((w0.forCall (fun _ _ => 0) ⟨#[], #[.int .i64 0, .agg #[.int .i64 0, .int .i64 0, .int .i64 0, .int .i64 0, .int .i64 0, .int .i64 0, .int .i64 0, .string ⟨#[]⟩, .int .i64 0, .string ⟨#[]⟩]], []⟩).heap.toList.drop Tryd.prog.globals.size).take ((begin Tryd.prog (fun _ _ => 0) default).world.heap.size - Tryd.prog.globals.size) = (begin Tryd.prog (fun _ _ => 0) default).world.heap.toList.drop Tryd.prog.globals.size ∧
    Input.okWideB Tryd.prog (w0.forCall (fun _ _ => 0) ⟨#[], #[.int .i64 0, .agg #[.int .i64 0, .int .i64 0, .int .i64 0, .int .i64 0, .int .i64 0, .int .i64 0, .int .i64 0, .string ⟨#[]⟩, .int .i64 0, .string ⟨#[]⟩]], []⟩) 3 ⟨#[], #[.int .i64 0, .agg #[.int .i64 0, .int .i64 0, .int .i64 0, .int .i64 0, .int .i64 0, .int .i64 0, .int .i64 0, .string ⟨#[]⟩, .int .i64 0, .string ⟨#[]⟩]], []⟩ = true ∧
    laidMet Tryd.prog Rows.upcastMoneyRow.laid (w0.forCall (fun _ _ => 0) ⟨#[], #[.int .i64 0, .agg #[.int .i64 0, .int .i64 0, .int .i64 0, .int .i64 0, .int .i64 0, .int .i64 0, .int .i64 0, .string ⟨#[]⟩, .int .i64 0, .string ⟨#[]⟩]], []⟩).memory ∧
    ∀ (H : Type) (enc : TypeId × Value → H), DataW.whole enc Tryd.prog (w0.forCall (fun _ _ => 0) ⟨#[], #[.int .i64 0, .agg #[.int .i64 0, .int .i64 0, .int .i64 0, .int .i64 0, .int .i64 0, .int .i64 0, .int .i64 0, .string ⟨#[]⟩, .int .i64 0, .string ⟨#[]⟩]], []⟩).memory Tryd.f3.params.toList Rows.upcastMoneySpec.vars false (#[.int .i64 0, .agg #[.int .i64 0, .int .i64 0, .int .i64 0, .int .i64 0, .int .i64 0, .int .i64 0, .int .i64 0, .string ⟨#[]⟩, .int .i64 0, .string ⟨#[]⟩]] : Array Value).toList 8 = some ([.lit (.int .i64 0), .agg [.lit (.int .i64 0), .lit (.int .i64 0), .lit (.int .i64 0), .lit (.int .i64 0), .lit (.int .i64 0), .lit (.int .i64 0), .lit (.int .i64 0), .lit (.string []), .lit (.int .i64 0), .lit (.string [])]], [], []) :=
  ⟨{ World.holding Tryd.prog os ⟨#[], #[], []⟩ with heap := (World.holding Tryd.prog os ⟨#[], #[], []⟩).heap.modify 0 fun
      | .cells _ t frozen => .cells #[.int .i64 0, .int .i64 1900, .int .i64 2000, .int .i64 700] t frozen
      | o => o }, rfl, by kernel_rfl, by kernel_rfl, by kernel_rfl, laidMet_of_run' 8 (by kernel_rfl) (by kernel_rfl), fun _ _ => by kernel_rfl⟩
set_option maxRecDepth 100000 in
theorem lifted (os : Os) (started : os.Started) (H : Type) (enc : TypeId × Value → H) (F : Stop.Interp) :
    ReturnsInHanded {} Tryd.checked os 3 .any ((OpenSpec.ofChange Rows.upcastMoneySpec).preRow enc Tryd.prog Tryd.f3 Rows.upcastMoneyRow.domain false Rows.upcastMoneyRow.laid) (((OpenSpec.ofChange Rows.upcastMoneySpec).at F).post enc Tryd.prog Tryd.f3 false true false false) := by
  obtain ⟨w0, h1, h2, h3, h4, h5, h6⟩ := start os
  refine returnsInHanded_of_row (C := Tryd.checked) (s := OpenSpec.ofChange Rows.upcastMoneySpec) own started (by kernel_rfl) Tryd.func3
    (witness_row_at (enc := enc) (C := Tryd.checked) false w0 #[.int .i64 0, .agg #[.int .i64 0, .int .i64 0, .int .i64 0, .int .i64 0, .int .i64 0, .int .i64 0, .int .i64 0, .string ⟨#[]⟩, .int .i64 0, .string ⟨#[]⟩]] h1 h2 h3 h4
      (OpenSpec.preRow_of_cond 8 (h6 H enc) (by kernel_rfl) (fun k hk => by cases hk) (by kernel_rfl) h5)) ?_
  intro W base args ds gs before hval hW _ hcond hsz hL _ _
  exact contract H enc W base args ds gs before hval hW hsz hL
theorem said : Rows.UpcastMoneySaid :=
  OpenClaim.holds_of_cond 3 Tryd.f3 rfl rfl rfl rfl rfl rfl rfl ⟨rfl, rfl, rfl, rfl, rfl⟩ rfl rfl rfl rfl rfl (by kernel_rfl) Tryd.func3 (by kernel_rfl)
    (of_decide_eq_true (by kernel_rfl)) (by unfold Func.isWrapper; first | (rw [if_pos (by decide +kernel)]; kernel_rfl) | (rw [if_neg (by decide +kernel)]; exact ⟨rfl, rfl⟩))
    (fun os started H enc _ F => by rw [OpenClaim.pre_eq_preRow]; exact lifted os started H enc F)
theorem plain (f : FuncId) (fn : Func) (hf : Tryd.pinned.checked.prog.funcNamed "daybook/daybooklaw07.UpcastMoney" = some f) (hfn : Tryd.pinned.checked.prog.funcs[f]? = some fn) :
    false = Tryd.pinned.checked.prog.looks [] ∧ ∀ (j : Nat) t, fn.params[j]? = some t → Tryd.pinned.checked.prog.wantsStandIn t = false := by
  obtain rfl : f = 3 := Option.some.inj ((show Tryd.prog.funcNamed "daybook/daybooklaw07.UpcastMoney" = some 3 by kernel_rfl).symm.trans hf) |>.symm
  obtain rfl : fn = Tryd.f3 := (Option.some.inj (Tryd.func3.symm.trans hfn)).symm
  refine ⟨by kernel_rfl, fun j t ht => ?_⟩
  rw [Tryd.params3] at ht
  have hm := Array.mem_of_getElem? ht
  have hall : ∀ t ∈ (#[3, 24] : Array TypeId), Tryd.prog.wantsStandIn t = false := by
    intro t ht
    simp only [List.mem_toArray, List.mem_cons, List.not_mem_nil, or_false] at ht
    rcases ht with rfl | rfl <;> kernel_rfl
  exact hall t hm
theorem card : Rows.UpcastMoneyCardSaid :=
  Claim7.holds_tied_plain_at .later [] _ _ _ _ said (fun _ h => by cases h) (by kernel_rfl) (fun _ h => by cases h) upcastMoney_row_tie rfl ⟨rfl, rfl⟩ (by kernel_rfl) rfl plain (by kernel_rfl)
end Go.Proofs.YtbgdkpkeghnmmabDoor.upcastMoney
