/- Own texts, joined: Chain. -/
import Derived.Test.YtofealmjggpacaaDoorJ27
namespace Go.Proofs.YtofealmjggpacaaDoor
open Go.ChangeShapes Go.WideShapes Go.ChangeAt Go.RowKit
/-- two events in blocks of the call's own, b and c; nothing older has turned; the table of taxes -/
def Fr (w wr : World) (b c : Nat) (e z : Ev) : Prop := EvAt wr b e ∧ EvAt wr c z ∧ Below w.heap.size w wr ∧ Tax wr
theorem Fr.keep {w w1 w2 : World} {b c : Nat} {e z : Ev} (h : Fr w w1 b c e z) (hb : Below w1.heap.size w1 w2) : Hid (Fr w w2 b c e z) :=
  ⟨h.1.after hb, h.2.1.after hb, h.2.2.1.trans (hb.mono h.2.2.1.size), h.2.2.2.keep hb⟩
theorem tax_far {w1 w2 : World} {b : Nat} (h : Tax w1) (hb : 0 < b) (hk : ∀ k, k ≠ b → w2.heap[k]? = w1.heap[k]?) (hs : w2.heap.size = w1.heap.size) : Tax w2 := by
  have h0 : w2.heap[0]? = w1.heap[0]? := hk 0 (by omega)
  obtain ⟨a0, a1, a2, a3, a4⟩ := h
  exact ⟨by rw [hs]; exact a0, (World.cell?_of_block (w := w1) (a := ⟨0, 0, none⟩) h0).trans a1, (World.cell?_of_block (w := w1) (a := ⟨0, 1, none⟩) h0).trans a2, (World.cell?_of_block (w := w1) (a := ⟨0, 2, none⟩) h0).trans a3, (World.cell?_of_block (w := w1) (a := ⟨0, 3, none⟩) h0).trans a4⟩
theorem Fr.put1 {w w1 w2 : World} {b c : Nat} {e e2 z : Ev} (h : Fr w w1 b c e z) (hbc : b ≠ c) (hw : w.heap.size ≤ b) (h0 : 0 < w.heap.size) (h1 : EvAt w2 b e2) (h2 : ∀ B a, Below B a w1 → B ≤ b → Below B a w2) (h3 : ∀ k, k ≠ b → w2.heap[k]? = w1.heap[k]?) (h4 : w2.heap.size = w1.heap.size) : Hid (Fr w w2 b c e2 z) :=
  ⟨h1, (h3 c (Ne.symm hbc)).trans h.2.1, h2 _ _ h.2.2.1 hw, tax_far h.2.2.2 (by omega) h3 h4⟩
theorem Fr.put2 {w w1 w2 : World} {b c : Nat} {e z z2 : Ev} (h : Fr w w1 b c e z) (hbc : b ≠ c) (hw : w.heap.size ≤ c) (h0 : 0 < w.heap.size) (h1 : EvAt w2 c z2) (h2 : ∀ B a, Below B a w1 → B ≤ c → Below B a w2) (h3 : ∀ k, k ≠ c → w2.heap[k]? = w1.heap[k]?) (h4 : w2.heap.size = w1.heap.size) : Hid (Fr w w2 b c e z2) :=
  ⟨(h3 b hbc).trans h.1, h1, h2 _ _ h.2.2.1 hw, tax_far h.2.2.2 (by omega) h3 h4⟩
theorem Fr.start (w : World) (e : Ev) (ht : Tax w) : Hid (Fr w ((w.alloc (.cells (evA e) 25)).alloc (.cells (evA zeroE) 25)) w.heap.size (w.heap.size + 1) e zeroE) := by
  obtain ⟨h1, h2, h3⟩ := frame2 w e
  exact ⟨h1, h2, h3, ht.keep h3⟩
set_option maxRecDepth 20000 in
set_option maxHeartbeats 2000000 in
theorem chain_no (v : Int) (e : Ev) (w : World) (ht : Tax w) (hc : (chk v e != 0) = true) :
    Calls Tryd.prog 15 #[.int .i64 v, .agg (evA e)] w fun x w' => x = .returned (.tuple #[.agg (evA zeroE), .int .i64 (chk v e)]) ∧ Below w.heap.size w w' := by
  have HT0 := ht.1
  have FR := Fr.start w e ht
  obtain ⟨r, HC⟩ : ∃ r, Hid (chk v e = r) := ⟨_, rfl⟩
  rw [HC.out] at hc ⊢
  clear ht
  go_enter Tryd.func15, Tryd.ntmps15
  go_wp2_with (first
    | ((with_reducible refine guard_load 25 ?_); refine wpList_load_ev rfl _ rfl FR.out.1 rfl ?_)
    | (go_at_call 34; refine (check_ev v e _).mono ?_; rw [HC.out]; rintro _ w8 ⟨rfl, hb8⟩; have FQ := FR.out.keep hb8; clear FR hb8; have FR := FQ; clear FQ)
    | ((with_reducible refine guard_store 25 ?_); refine wpList_store_ev (e2 := zeroE) rfl _ _ rfl FR.out.2.1 rfl rfl ?_; intro w9 z1 z2 z3 z4; have FQ := FR.out.put2 (by omega) (by omega) HT0 z1 z2 z3 z4; clear FR z1 z2 z3 z4; have FR := FQ; clear FQ))
  exact bodyPost_ret (v := .tuple #[.agg (evA zeroE), .int .i64 r]) (results_ev Tryd.results15 _ _ _ _ _ rfl rfl FR.out.2.1) rfl ⟨rfl, FR.out.2.2.1⟩
set_option maxRecDepth 20000 in
set_option maxHeartbeats 2000000 in
theorem chain_1 (e : Ev) (w : World) (ht : Tax w) (hc : chk 1 e = 0) :
    Calls Tryd.prog 15 #[.int .i64 1, .agg (evA e)] w fun x w' => x = .returned (.tuple #[.agg (evA (clearE (nameE (taxE (priceE e))))), .int .i64 0]) ∧ Below w.heap.size w w' := by
  have HT0 := ht.1
  have FR := Fr.start w e ht
  have HC : Hid (chk 1 e = 0) := hc
  have R1 : Hid (Right 1 e) := right_of hc
  have R2 : Hid (Right 2 (priceE e)) := right1 R1.out
  clear ht hc
  go_enter Tryd.func15, Tryd.ntmps15
  go_wp2_with (first
    | ((with_reducible refine guard_load 25 ?_); refine wpList_load_ev rfl _ rfl FR.out.1 rfl ?_)
    | ((with_reducible refine guard_store 25 ?_); refine wpList_store_ev rfl _ _ rfl FR.out.1 rfl rfl ?_; intro w9 z1 z2 z3 z4; have FQ := FR.out.put1 (by omega) (by omega) HT0 z1 z2 z3 z4; clear FR z1 z2 z3 z4; have FR := FQ; clear FQ)
    | ((with_reducible refine guard_store 25 ?_); refine wpList_store_ev rfl _ _ rfl FR.out.2.1 rfl rfl ?_; intro w9 z1 z2 z3 z4; have FQ := FR.out.put2 (by omega) (by omega) HT0 z1 z2 z3 z4; clear FR z1 z2 z3 z4; have FR := FQ; clear FQ)
    | (go_at_call 34; refine (check_ev 1 e _).mono ?_; rw [HC.out]; rintro _ w8 ⟨rfl, hb8⟩; have FQ := FR.out.keep hb8; clear FR hb8; have FR := FQ; clear FQ)
    | (go_at_call 35; refine (priced_ev e _ R1.out).mono ?_; rintro _ w8 ⟨rfl, hb8⟩; have FQ := FR.out.keep hb8; clear FR hb8; have FR := FQ; clear FQ)
    | (go_at_call 36; refine (taxed_ev (priceE e) _ R2.out FR.out.2.2.2).mono ?_; rintro _ w8 ⟨rfl, hb8⟩; have FQ := FR.out.keep hb8; clear FR hb8; have FR := FQ; clear FQ)
    | (go_at_call 37; refine (named_ev (taxE (priceE e)) _).mono ?_; rintro _ w8 ⟨rfl, hb8⟩; have FQ := FR.out.keep hb8; clear FR hb8; have FR := FQ; clear FQ)
    | (go_at_call 38; refine (cleared_ev (nameE (taxE (priceE e))) _).mono ?_; rintro _ w8 ⟨rfl, hb8⟩; have FQ := FR.out.keep hb8; clear FR hb8; have FR := FQ; clear FQ))
  exact bodyPost_ret (v := .tuple #[.agg (evA (clearE (nameE (taxE (priceE e))))), .int .i64 0]) (results_ev Tryd.results15 _ _ _ _ _ rfl rfl FR.out.2.1) rfl ⟨rfl, FR.out.2.2.1⟩
set_option maxRecDepth 20000 in
set_option maxHeartbeats 2000000 in
theorem chain_2 (e : Ev) (w : World) (ht : Tax w) (hc : chk 2 e = 0) :
    Calls Tryd.prog 15 #[.int .i64 2, .agg (evA e)] w fun x w' => x = .returned (.tuple #[.agg (evA (clearE (nameE (taxE e)))), .int .i64 0]) ∧ Below w.heap.size w w' := by
  have HT0 := ht.1
  have FR := Fr.start w e ht
  have HC : Hid (chk 2 e = 0) := hc
  have R2 : Hid (Right 2 e) := right_of hc
  clear ht hc
  go_enter Tryd.func15, Tryd.ntmps15
  go_wp2_with (first
    | ((with_reducible refine guard_load 25 ?_); refine wpList_load_ev rfl _ rfl FR.out.1 rfl ?_)
    | ((with_reducible refine guard_store 25 ?_); refine wpList_store_ev rfl _ _ rfl FR.out.1 rfl rfl ?_; intro w9 z1 z2 z3 z4; have FQ := FR.out.put1 (by omega) (by omega) HT0 z1 z2 z3 z4; clear FR z1 z2 z3 z4; have FR := FQ; clear FQ)
    | ((with_reducible refine guard_store 25 ?_); refine wpList_store_ev rfl _ _ rfl FR.out.2.1 rfl rfl ?_; intro w9 z1 z2 z3 z4; have FQ := FR.out.put2 (by omega) (by omega) HT0 z1 z2 z3 z4; clear FR z1 z2 z3 z4; have FR := FQ; clear FQ)
    | (go_at_call 34; refine (check_ev 2 e _).mono ?_; rw [HC.out]; rintro _ w8 ⟨rfl, hb8⟩; have FQ := FR.out.keep hb8; clear FR hb8; have FR := FQ; clear FQ)
    | (go_at_call 36; refine (taxed_ev e _ R2.out FR.out.2.2.2).mono ?_; rintro _ w8 ⟨rfl, hb8⟩; have FQ := FR.out.keep hb8; clear FR hb8; have FR := FQ; clear FQ)
    | (go_at_call 37; refine (named_ev (taxE e) _).mono ?_; rintro _ w8 ⟨rfl, hb8⟩; have FQ := FR.out.keep hb8; clear FR hb8; have FR := FQ; clear FQ)
    | (go_at_call 38; refine (cleared_ev (nameE (taxE e)) _).mono ?_; rintro _ w8 ⟨rfl, hb8⟩; have FQ := FR.out.keep hb8; clear FR hb8; have FR := FQ; clear FQ))
  exact bodyPost_ret (v := .tuple #[.agg (evA (clearE (nameE (taxE e)))), .int .i64 0]) (results_ev Tryd.results15 _ _ _ _ _ rfl rfl FR.out.2.1) rfl ⟨rfl, FR.out.2.2.1⟩
set_option maxRecDepth 20000 in
set_option maxHeartbeats 2000000 in
theorem chain_3 (e : Ev) (w : World) (ht : Tax w) (hc : chk 3 e = 0) :
    Calls Tryd.prog 15 #[.int .i64 3, .agg (evA e)] w fun x w' => x = .returned (.tuple #[.agg (evA (clearE (nameE e))), .int .i64 0]) ∧ Below w.heap.size w w' := by
  have HT0 := ht.1
  have FR := Fr.start w e ht
  have HC : Hid (chk 3 e = 0) := hc
  clear ht hc
  go_enter Tryd.func15, Tryd.ntmps15
  go_wp2_with (first
    | ((with_reducible refine guard_load 25 ?_); refine wpList_load_ev rfl _ rfl FR.out.1 rfl ?_)
    | ((with_reducible refine guard_store 25 ?_); refine wpList_store_ev rfl _ _ rfl FR.out.1 rfl rfl ?_; intro w9 z1 z2 z3 z4; have FQ := FR.out.put1 (by omega) (by omega) HT0 z1 z2 z3 z4; clear FR z1 z2 z3 z4; have FR := FQ; clear FQ)
    | ((with_reducible refine guard_store 25 ?_); refine wpList_store_ev rfl _ _ rfl FR.out.2.1 rfl rfl ?_; intro w9 z1 z2 z3 z4; have FQ := FR.out.put2 (by omega) (by omega) HT0 z1 z2 z3 z4; clear FR z1 z2 z3 z4; have FR := FQ; clear FQ)
    | (go_at_call 34; refine (check_ev 3 e _).mono ?_; rw [HC.out]; rintro _ w8 ⟨rfl, hb8⟩; have FQ := FR.out.keep hb8; clear FR hb8; have FR := FQ; clear FQ)
    | (go_at_call 37; refine (named_ev e _).mono ?_; rintro _ w8 ⟨rfl, hb8⟩; have FQ := FR.out.keep hb8; clear FR hb8; have FR := FQ; clear FQ)
    | (go_at_call 38; refine (cleared_ev (nameE e) _).mono ?_; rintro _ w8 ⟨rfl, hb8⟩; have FQ := FR.out.keep hb8; clear FR hb8; have FR := FQ; clear FQ))
  exact bodyPost_ret (v := .tuple #[.agg (evA (clearE (nameE e))), .int .i64 0]) (results_ev Tryd.results15 _ _ _ _ _ rfl rfl FR.out.2.1) rfl ⟨rfl, FR.out.2.2.1⟩
set_option maxRecDepth 20000 in
set_option maxHeartbeats 2000000 in
theorem chain_4 (e : Ev) (w : World) (ht : Tax w) (hc : chk 4 e = 0) :
    Calls Tryd.prog 15 #[.int .i64 4, .agg (evA e)] w fun x w' => x = .returned (.tuple #[.agg (evA (clearE e)), .int .i64 0]) ∧ Below w.heap.size w w' := by
  have HT0 := ht.1
  have FR := Fr.start w e ht
  have HC : Hid (chk 4 e = 0) := hc
  clear ht hc
  go_enter Tryd.func15, Tryd.ntmps15
  go_wp2_with (first
    | ((with_reducible refine guard_load 25 ?_); refine wpList_load_ev rfl _ rfl FR.out.1 rfl ?_)
    | ((with_reducible refine guard_store 25 ?_); refine wpList_store_ev rfl _ _ rfl FR.out.1 rfl rfl ?_; intro w9 z1 z2 z3 z4; have FQ := FR.out.put1 (by omega) (by omega) HT0 z1 z2 z3 z4; clear FR z1 z2 z3 z4; have FR := FQ; clear FQ)
    | ((with_reducible refine guard_store 25 ?_); refine wpList_store_ev rfl _ _ rfl FR.out.2.1 rfl rfl ?_; intro w9 z1 z2 z3 z4; have FQ := FR.out.put2 (by omega) (by omega) HT0 z1 z2 z3 z4; clear FR z1 z2 z3 z4; have FR := FQ; clear FQ)
    | (go_at_call 34; refine (check_ev 4 e _).mono ?_; rw [HC.out]; rintro _ w8 ⟨rfl, hb8⟩; have FQ := FR.out.keep hb8; clear FR hb8; have FR := FQ; clear FQ)
    | (go_at_call 38; refine (cleared_ev e _).mono ?_; rintro _ w8 ⟨rfl, hb8⟩; have FQ := FR.out.keep hb8; clear FR hb8; have FR := FQ; clear FQ))
  exact bodyPost_ret (v := .tuple #[.agg (evA (clearE e)), .int .i64 0]) (results_ev Tryd.results15 _ _ _ _ _ rfl rfl FR.out.2.1) rfl ⟨rfl, FR.out.2.2.1⟩
set_option maxRecDepth 20000 in
set_option maxHeartbeats 2000000 in
theorem chain_5 (e : Ev) (w : World) (ht : Tax w) (hc : chk 5 e = 0) :
    Calls Tryd.prog 15 #[.int .i64 5, .agg (evA e)] w fun x w' => x = .returned (.tuple #[.agg (evA e), .int .i64 0]) ∧ Below w.heap.size w w' := by
  have HT0 := ht.1
  have FR := Fr.start w e ht
  have HC : Hid (chk 5 e = 0) := hc
  clear ht hc
  go_enter Tryd.func15, Tryd.ntmps15
  go_wp2_with (first
    | ((with_reducible refine guard_load 25 ?_); refine wpList_load_ev rfl _ rfl FR.out.1 rfl ?_)
    | ((with_reducible refine guard_store 25 ?_); refine wpList_store_ev rfl _ _ rfl FR.out.2.1 rfl rfl ?_; intro w9 z1 z2 z3 z4; have FQ := FR.out.put2 (by omega) (by omega) HT0 z1 z2 z3 z4; clear FR z1 z2 z3 z4; have FR := FQ; clear FQ)
    | (go_at_call 34; refine (check_ev 5 e _).mono ?_; rw [HC.out]; rintro _ w8 ⟨rfl, hb8⟩; have FQ := FR.out.keep hb8; clear FR hb8; have FR := FQ; clear FQ))
  exact bodyPost_ret (v := .tuple #[.agg (evA e), .int .i64 0]) (results_ev Tryd.results15 _ _ _ _ _ rfl rfl FR.out.2.1) rfl ⟨rfl, FR.out.2.2.1⟩
theorem chain_ok (v : Int) (e : Ev) (w : World) (ht : Tax w) (hc : chk v e = 0) :
    Calls Tryd.prog 15 #[.int .i64 v, .agg (evA e)] w fun x w' => x = .returned (.tuple #[.agg (evA (chainE v e)), .int .i64 0]) ∧ Below w.heap.size w w' := by
  have r := right_of hc
  have hv : v = 1 ∨ v = 2 ∨ v = 3 ∨ v = 4 ∨ v = 5 := by have := r.v1; have := r.v5; omega
  rcases hv with rfl | rfl | rfl | rfl | rfl
  · exact chain_1 e w ht hc
  · exact chain_2 e w ht hc
  · exact chain_3 e w ht hc
  · exact chain_4 e w ht hc
  · exact chain_5 e w ht hc
end Go.Proofs.YtofealmjggpacaaDoor
