/- Own texts, joined: Evc, Sd6. -/
import Derived.Test.YtofealmjggpacaaDoorJ26
import Derived.Test.YtofealmjggpacaaDoorJ13
import Derived.Deep.RegionHeld3
namespace Go.Proofs.YtofealmjggpacaaDoor
open Go.ChangeShapes Go.WideShapes Go.ChangeAt Go.RowKit
theorem EvAt.cells {w : World} {b : Nat} {e : Ev} (h : EvAt w b e) : w.cell? ⟨b, 0, none⟩ = some (.int .i64 e.kind) ∧ w.cell? ⟨b, 1, none⟩ = some (.int .i64 e.order) ∧ w.cell? ⟨b, 2, none⟩ = some (.int .i64 e.item) ∧ w.cell? ⟨b, 3, none⟩ = some (.int .i64 e.qty) ∧ w.cell? ⟨b, 4, none⟩ = some (.int .i64 e.price) ∧ w.cell? ⟨b, 5, none⟩ = some (.int .i64 e.cur) ∧ w.cell? ⟨b, 6, none⟩ = some (.int .i64 e.tax) ∧ w.cell? ⟨b, 7, none⟩ = some (.string e.who) ∧ w.cell? ⟨b, 8, none⟩ = some (.int .i64 e.stamp) ∧ w.cell? ⟨b, 9, none⟩ = some (.string e.note) :=
  ⟨by rw [cell_of_row _ _ 0 _ _ _ h]; rfl, by rw [cell_of_row _ _ 1 _ _ _ h]; rfl, by rw [cell_of_row _ _ 2 _ _ _ h]; rfl, by rw [cell_of_row _ _ 3 _ _ _ h]; rfl, by rw [cell_of_row _ _ 4 _ _ _ h]; rfl, by rw [cell_of_row _ _ 5 _ _ _ h]; rfl, by rw [cell_of_row _ _ 6 _ _ _ h]; rfl, by rw [cell_of_row _ _ 7 _ _ _ h]; rfl, by rw [cell_of_row _ _ 8 _ _ _ h]; rfl, by rw [cell_of_row _ _ 9 _ _ _ h]; rfl⟩
end Go.Proofs.YtofealmjggpacaaDoor
namespace Go.Proofs.YtofealmjggpacaaDoor
open Go.ChangeShapes Go.WideShapes Go.ChangeAt Go.RowKit
set_option linter.unusedVariables false
/-- what version 1 takes -/
def ev1 (fs : List Fld) : Ev := ⟨capN (numF fs 1), capN (numF fs 2), capN (numF fs 3), 0, capN (numF fs 5), 0, 0, ⟨#[]⟩, 0, ⟨#[]⟩⟩
def ev2 (fs : List Fld) : Ev := { ev1 fs with cur := capN (numF fs 6) }
def ev3 (fs : List Fld) : Ev := { ev2 fs with tax := capN (numF fs 7) }
def ev4 (fs : List Fld) : Ev := { ev3 fs with who := str8 (txtF fs 8) }
def ev5 (fs : List Fld) : Ev := { ev4 fs with stamp := capN (numF fs 9), note := str8 (txtF fs 10) }
def tg1 : List (Int × Bool) := [(1, false), (2, false), (3, false), (5, false)]
def tg2 : List (Int × Bool) := [(1, false), (2, false), (3, false), (5, false), (6, false)]
def tg3 : List (Int × Bool) := [(1, false), (2, false), (3, false), (5, false), (6, false), (7, false)]
def tg4 : List (Int × Bool) := [(1, false), (2, false), (3, false), (5, false), (6, false), (7, false), (8, true)]
def tg5 : List (Int × Bool) := [(1, false), (2, false), (3, false), (5, false), (6, false), (7, false), (8, true), (9, false), (10, true)]
theorem Kept.chain {x y : Nat} {a b c : World} (h : Kept x y a b) (k : Kept x y b c) : Kept x y a c :=
  ⟨k.os.trans h.os, k.tape.trans h.tape, k.output.trans h.output, Nat.le_trans h.size k.size, fun j hj h1 h2 => (k.block j (Nat.lt_of_lt_of_le hj h.size) h1 h2).trans (h.block j hj h1 h2)⟩
theorem Kept.of_bel {x y : Nat} {a b : World} (h : Below a.heap.size a b) : Kept x y a b := ⟨h.os, h.tape, h.output, h.size, fun k hk _ _ => h.block k hk⟩
/-- while an event is taken: the reader, the answer's block rb (nought), all else as it was -/
structure Tv (w1 w2 x : World) (base q b rb : Nat) (L : List (Fld × Value)) (ts : List (Int × Bool)) : Prop where
  tk : Tk w1 x base q b L ts
  res : EvAt x rb zeroE
  kep : Kept q b w2 x
  lts : q < w2.heap.size ∧ b < w2.heap.size ∧ w2.heap.size ≤ rb ∧ w1.heap.size ≤ w2.heap.size
theorem Tv.step {w1 w2 x y : World} {base q b rb : Nat} {L : List (Fld × Value)} {ts ts' : List (Int × Bool)} (h : Tv w1 w2 x base q b rb L ts) (ht : Tk w1 y base q b L ts') (hk : Kept q b x y) : Tv w1 w2 y base q b rb L ts' :=
  ⟨ht, h.res.kept hk (by have := h.lts; omega) (by have := h.lts; omega), h.kep.chain hk, h.lts⟩
theorem Tv.keep {w1 w2 x y : World} {base q b rb : Nat} {L : List (Fld × Value)} {ts : List (Int × Bool)} (h : Tv w1 w2 x base q b rb L ts) (hb : Below x.heap.size x y) : Tv w1 w2 y base q b rb L ts :=
  h.step (h.tk.keep hb) (Kept.of_bel hb)
theorem tv_of {w1 w2 : World} {base q b : Nat} {L : List (Fld × Value)} {ts : List (Int × Bool)} (h : Tk w1 w2 base q b L ts) (arr : Array Value) (T : TypeId) :
    ∃ W, (w2.alloc (.cells arr T)).alloc (.cells (evA zeroE) 25) = W ∧ Tv w1 w2 W base q b (w2.heap.size + 1) L ts ∧ W.heap.size = w2.heap.size + 2 ∧ (∀ i, W.cell? ⟨w2.heap.size, i, none⟩ = arr[i]?) := by
  have hB : Below w2.heap.size w2 ((w2.alloc (.cells arr T)).alloc (.cells (evA zeroE) 25)) := (((Below.refl _ _).alloc (Nat.le_refl _) _).alloc (by simp) _)
  refine ⟨_, rfl, ⟨h.keep hB, ?_, Kept.of_bel hB, h.lts.1, h.lts.2, by omega, h.kep.size⟩, by simp, fun i => ?_⟩
  · have := evAt_new (w2.alloc (.cells arr T)) zeroE
    simpa using this
  · have h1 : ((w2.alloc (.cells arr T)).alloc (.cells (evA zeroE) 25)).heap[w2.heap.size]? = some (.cells arr T) := (Below.heap_alloc _ _ _ (by simp)).trans (heap_alloc_new w2 _)
    rw [cell_of_row _ _ i _ _ _ h1]
/-- a store into an event of the call's own -/
theorem Tv.poke {w1 w2 x y : World} {base q b rb : Nat} {L : List (Fld × Value)} {ts : List (Int × Bool)} (h : Tv w1 w2 x base q b rb L ts) {k : Nat} {e : Ev} (he : EvAt x k e) (hk : w2.heap.size ≤ k) (ho : y.os = x.os ∧ y.tape = x.tape ∧ y.output = x.output) (hj : ∀ j, j ≠ k → y.heap[j]? = x.heap[j]?) (hs : y.heap.size = x.heap.size) : Tk w1 y base q b L ts ∧ Kept q b w2 y := by
  obtain ⟨l1, l2, l3, l4⟩ := h.lts
  obtain ⟨n, D, hm, hr⟩ := h.tk.rd.map
  have hle : w2.heap.size ≤ x.heap.size := h.kep.size
  refine ⟨⟨⟨(hj q (by omega)).trans h.tk.rd.blk, ⟨n, D, owns_same hm (hj b (by omega)), hr⟩, fun p hp => own_other (h.tk.rd.byt p hp) (x := k) (y := k) (fun c hc => ?_) (fun c hc => ?_) (fun j _ j2 _ => hj j j2)⟩, ⟨ho.1.trans h.tk.kep.os, ho.2.1.trans h.tk.kep.tape, ho.2.2.trans h.tk.kep.output, by rw [hs]; omega, fun j j1 j2 j3 => (hj j (by omega)).trans (h.tk.kep.block j j1 j2 j3)⟩⟩, ⟨ho.1.trans h.kep.os, ho.2.1.trans h.kep.tape, ho.2.2.trans h.kep.output, by rw [hs]; exact hle, fun j j1 j2 j3 => (hj j (by omega)).trans (h.kep.block j j1 j2 j3)⟩⟩
  · unfold EvAt at he; rw [he] at hc; cases hc
  · unfold EvAt at he; rw [he] at hc; cases hc
theorem Tv.pokes {w1 w2 x y : World} {base q b rb : Nat} {L : List (Fld × Value)} {ts : List (Int × Bool)} (h : Tv w1 w2 x base q b rb L ts) {k : Nat} {e : Ev} (he : EvAt x k e) (hk : w2.heap.size ≤ k) (hne : rb ≠ k) (ho : y.os = x.os ∧ y.tape = x.tape ∧ y.output = x.output) (hj : ∀ j, j ≠ k → y.heap[j]? = x.heap[j]?) (hs : y.heap.size = x.heap.size) : Tv w1 w2 y base q b rb L ts :=
  ⟨(h.poke he hk ho hj hs).1, (hj rb hne).trans h.res, (h.poke he hk ho hj hs).2, h.lts⟩
theorem own_poke {w : World} {base : Nat} {v : Value} {l : List Nat} {k : Nat} {e : Ev} (h : Own w base v l) (he : EvAt w k e) (j : Nat) (x : Value) : Own (w.setCell ⟨k, j, none⟩ x) base v l :=
  own_other h (x := k) (y := k) (fun c hc => by unfold EvAt at he; rw [he] at hc; cases hc) (fun c hc => by unfold EvAt at he; rw [he] at hc; cases hc) (fun i _ i2 _ => heap_setCell_other w ⟨k, j, none⟩ i _ i2)
/-- what a store's law tells of the rest -/
theorem os_of {x y : World} {k : Nat} (h : ∀ B a, Below B a x → B ≤ k → Below B a y) : y.os = x.os ∧ y.tape = x.tape ∧ y.output = x.output :=
  have h1 := h 0 x (Below.refl _ _) (Nat.zero_le _)
  ⟨h1.os, h1.tape, h1.output⟩
theorem EvAt.set {w : World} {k j : Nat} {e e2 : Ev} (h : EvAt w k e) (v : Value) (he : (evA e).setIfInBounds j v = evA e2) : EvAt (w.setCell ⟨k, j, none⟩ v) k e2 := by
  unfold EvAt at h ⊢
  rw [heap_setCell_same w k j _ _ _ h, he]
theorem EvAt.froz {w : World} {k : Nat} {e : Ev} (h : EvAt w k e) (j : Nat) : w.frozen? ⟨k, j, none⟩ = false := frozen_of_row _ _ j _ _ h
set_option maxRecDepth 20000 in
set_option maxHeartbeats 1000000 in
theorem take1 (arr : Array Value) (w1 w2 : World) (base q b : Nat) (L : List (Fld × Value)) (h : Tk w1 w2 base q b L []) :
    Calls Tryd.prog 134 #[.agg arr, .pointer (some ⟨q, 0, none⟩)] w2 fun r w3 => r = .returned (.agg (evA (ev1 (L.map Prod.fst)))) ∧ Tk w1 w3 base q b L tg1 ∧ Kept q b w2 w3 := by
  obtain ⟨W, hW, hT, hs, _⟩ := tv_of h arr 159
  have HW : Hid (_ = W) := hW
  have HT : Hid (Tv w1 w2 W base q b (w2.heap.size + 1) L []) := hT
  obtain ⟨u1, hu1⟩ : ∃ u, capN (numF (L.map Prod.fst) 1) = u := ⟨_, rfl⟩
  obtain ⟨u2, hu2⟩ : ∃ u, capN (numF (L.map Prod.fst) 2) = u := ⟨_, rfl⟩
  obtain ⟨u3, hu3⟩ : ∃ u, capN (numF (L.map Prod.fst) 3) = u := ⟨_, rfl⟩
  obtain ⟨u5, hu5⟩ : ∃ u, capN (numF (L.map Prod.fst) 5) = u := ⟨_, rfl⟩
  have HU : Hid (ev1 (L.map Prod.fst) = ⟨u1, u2, u3, 0, u5, 0, 0, ⟨#[]⟩, 0, ⟨#[]⟩⟩) := by show _ = _; unfold ev1; rw [hu1, hu2, hu3, hu5]
  have H1 : Hid (_) := hu1
  have H2 : Hid (_) := hu2
  have H3 : Hid (_) := hu3
  have H5 : Hid (_) := hu5
  clear h hW hT hs hu1 hu2 hu3 hu5
  go_enter Tryd.func134, Tryd.ntmps134
  go_wp2_with (first
    | (go_at_call_of 136 (Value.int IntKind.i64 1); rw [show ((w2.alloc (.cells arr 159)).alloc (.cells #[.int .i64 0, .int .i64 0, .int .i64 0, .int .i64 0, .int .i64 0, .int .i64 0, .int .i64 0, .string ⟨#[]⟩, .int .i64 0, .string ⟨#[]⟩] 25)) = W from HW.out]; refine (number_tk 1 w1 W base q b L [] HT.out.tk (by simp) (by decide)).mono ?_; rw [H1.out]; rintro r x1 ⟨rfl, h1, h2⟩; have HT1 := HT.out.step h1 h2; clear HT h1 h2; have HT : Hid (Tv w1 w2 x1 base q b (w2.heap.size + 1) L [(1, false)]) := HT1; clear HT1)
    | (go_at_call_of 136 (Value.int IntKind.i64 2); refine (number_tk 2 w1 x1 base q b L [(1, false)] HT.out.tk (by simp) (by decide)).mono ?_; rw [H2.out]; rintro r x2 ⟨rfl, h1, h2⟩; have HT1 := HT.out.step h1 h2; clear HT h1 h2; have HT : Hid (Tv w1 w2 x2 base q b (w2.heap.size + 1) L [(1, false), (2, false)]) := HT1; clear HT1)
    | (go_at_call_of 136 (Value.int IntKind.i64 3); refine (number_tk 3 w1 x2 base q b L [(1, false), (2, false)] HT.out.tk (by simp) (by decide)).mono ?_; rw [H3.out]; rintro r x3 ⟨rfl, h1, h2⟩; have HT1 := HT.out.step h1 h2; clear HT h1 h2; have HT : Hid (Tv w1 w2 x3 base q b (w2.heap.size + 1) L [(1, false), (2, false), (3, false)]) := HT1; clear HT1)
    | (go_at_call_of 136 (Value.int IntKind.i64 5); refine (number_tk 5 w1 x3 base q b L [(1, false), (2, false), (3, false)] HT.out.tk (by simp) (by decide)).mono ?_; rw [H5.out]; rintro r x4 ⟨rfl, h1, h2⟩; have HT1 := HT.out.step h1 h2; clear HT h1 h2; have HT : Hid (Tv w1 w2 x4 base q b (w2.heap.size + 1) L tg1) := HT1; clear HT1)
    | ((with_reducible refine guard_store 25 ?_); refine wpList_store_ev (e := zeroE) (e2 := ⟨u1, u2, u3, 0, u5, 0, 0, ⟨#[]⟩, 0, ⟨#[]⟩⟩) rfl _ _ rfl HT.out.res rfl rfl ?_; intro x5 z1 z2 z3 z4))
  rw [HU.out]
  exact bodyPost_ret (results_ev1 rfl _ _ _ rfl z1) rfl ⟨rfl, HT.out.poke HT.out.res HT.out.lts.2.2.1 (os_of z2) z3 z4⟩
set_option maxRecDepth 20000 in
set_option maxHeartbeats 1000000 in
theorem take2 (w1 w2 : World) (base q b : Nat) (L : List (Fld × Value)) (h : Tk w1 w2 base q b L []) :
    Calls Tryd.prog 141 #[.agg #[.int .i64 0, .int .i64 0, .int .i64 0, .int .i64 0, .int .i64 0, .int .i64 0], .pointer (some ⟨q, 0, none⟩)] w2 fun r w3 => r = .returned (.agg (evA (ev2 (L.map Prod.fst)))) ∧ Tk w1 w3 base q b L tg2 ∧ Kept q b w2 w3 := by
  obtain ⟨W, hW, hT, hs, hcl⟩ := tv_of h #[.int .i64 0, .int .i64 0, .int .i64 0, .int .i64 0, .int .i64 0, .int .i64 0] 161
  have hW2 : (w2.alloc (.cells #[.int .i64 0, .int .i64 0, .int .i64 0, .int .i64 0, .int .i64 0, .int .i64 0] 161)).alloc (.cells #[.int .i64 0, .int .i64 0, .int .i64 0, .int .i64 0, .int .i64 0, .int .i64 0, .int .i64 0, .string ⟨#[]⟩, .int .i64 0, .string ⟨#[]⟩] 25) = W := hW
  have HT : Hid (Tv w1 w2 W base q b (w2.heap.size + 1) L []) := hT
  have HS : Hid (W.heap.size = w2.heap.size + 2) := hs
  obtain ⟨U, hu⟩ : ∃ U, capN (numF (L.map Prod.fst) 6) = U := ⟨_, rfl⟩
  have HU : Hid (_) := hu
  have HN : Hid (ev2 (L.map Prod.fst) = { ev1 (L.map Prod.fst) with cur := U }) := by show _ = _; unfold ev2; rw [hu]
  have k0 : W.cell? ⟨w2.heap.size, 0, none⟩ = some (.int .i64 0) := hcl 0
  have k1 : W.cell? ⟨w2.heap.size, 1, none⟩ = some (.int .i64 0) := hcl 1
  have k2 : W.cell? ⟨w2.heap.size, 2, none⟩ = some (.int .i64 0) := hcl 2
  have k3 : W.cell? ⟨w2.heap.size, 3, none⟩ = some (.int .i64 0) := hcl 3
  have k4 : W.cell? ⟨w2.heap.size, 4, none⟩ = some (.int .i64 0) := hcl 4
  have T1 : Hid True := trivial
  clear h hW hT hs hcl hu
  go_enter Tryd.func141, Tryd.ntmps141
  go_wp2_with (first
    | (go_at_call 134; refine (take1 _ w1 W base q b L HT.out.tk).mono ?_; rintro r x1 ⟨rfl, h1, h2⟩; have HT1 := HT.out.step h1 h2; have HXS : Hid (w2.heap.size + 2 ≤ x1.heap.size) := (by have h9 := h2.size; rw [HS.out] at h9; exact h9); have hb1 : Below x1.heap.size x1 (x1.alloc (.cells (evA zeroE) 25)) := (Below.refl _ _).alloc (Nat.le_refl _) _; clear HT h1 h2; have HT : Hid (Tv w1 w2 (x1.alloc (.cells (evA zeroE) 25)) base q b (w2.heap.size + 1) L tg1) := HT1.keep hb1; clear HT1 hb1)
    | ((with_reducible refine guard_store 25 ?_); clear T1; refine wpList_store_ev (e := zeroE) (e2 := ev1 (L.map Prod.fst)) rfl _ _ rfl (evAt_new x1 zeroE) rfl rfl ?_; intro x2 z1 z2 z3 z4; have HT1 := HT.out.pokes (evAt_new x1 zeroE) (by have := HXS.out; omega) (by have := HXS.out; omega) (os_of z2) z3 z4; clear HT z2 z3 z4; have HT : Hid (Tv w1 w2 x2 base q b (w2.heap.size + 1) L tg1) := HT1; have HE : Hid (EvAt x2 x1.heap.size (ev1 (L.map Prod.fst))) := z1; clear HT1 z1)
    | (go_at_call 136; refine (number_tk 6 w1 _ base q b L tg1 HT.out.tk (by unfold tg1; simp) (by decide)).mono ?_; rw [HU.out]; rintro r x3 ⟨rfl, h1, h2⟩; have HT1 := HT.out.step h1 h2; have he3 := HE.out.kept h2 (by have := HT.out.lts; have := HXS.out; omega) (by have := HT.out.lts; have := HXS.out; omega); have f0 := he3.froz 5; have f1 := he3.cells.2.2.2.2.2.1; clear HT HE h1 h2; have HT : Hid (Tv w1 w2 x3 base q b (w2.heap.size + 1) L tg2) := HT1; have HE : Hid (EvAt x3 x1.heap.size (ev1 (L.map Prod.fst))) := he3; clear HT1 he3)
    | ((with_reducible refine guard_load 25 ?_); refine wpList_load_ev (e := { ev1 (L.map Prod.fst) with cur := U }) rfl _ rfl (HE.out.set _ rfl) rfl ?_; have HT1 := HT.out.pokes (y := x3.setCell ⟨x1.heap.size, 5, none⟩ (.int .i64 U)) HE.out (by have := HXS.out; omega) (by have := HXS.out; omega) ⟨rfl, rfl, rfl⟩ (fun jj hj => heap_setCell_other x3 ⟨x1.heap.size, 5, none⟩ jj _ hj) (by simp); clear HT; have HT : Hid (_) := HT1; clear HT1)
    | ((with_reducible refine guard_store 25 ?_); refine wpList_store_ev (e := zeroE) (e2 := { ev1 (L.map Prod.fst) with cur := U }) rfl _ _ rfl (Tv.res HT.out) rfl rfl ?_; intro x5 z1 z2 z3 z4))
  rw [HN.out]
  exact bodyPost_ret (results_ev1 rfl _ _ _ rfl z1) rfl ⟨rfl, Tv.poke HT.out (Tv.res HT.out) (Tv.lts HT.out).2.2.1 (os_of z2) z3 z4⟩
set_option maxRecDepth 20000 in
set_option maxHeartbeats 1000000 in
theorem take3 (w1 w2 : World) (base q b : Nat) (L : List (Fld × Value)) (h : Tk w1 w2 base q b L []) :
    Calls Tryd.prog 145 #[.agg #[.int .i64 0, .int .i64 0, .int .i64 0, .int .i64 0, .int .i64 0, .int .i64 0, .int .i64 0], .pointer (some ⟨q, 0, none⟩)] w2 fun r w3 => r = .returned (.agg (evA (ev3 (L.map Prod.fst)))) ∧ Tk w1 w3 base q b L tg3 ∧ Kept q b w2 w3 := by
  obtain ⟨W, hW, hT, hs, hcl⟩ := tv_of h #[.int .i64 0, .int .i64 0, .int .i64 0, .int .i64 0, .int .i64 0, .int .i64 0, .int .i64 0] 163
  have hW2 : (w2.alloc (.cells #[.int .i64 0, .int .i64 0, .int .i64 0, .int .i64 0, .int .i64 0, .int .i64 0, .int .i64 0] 163)).alloc (.cells #[.int .i64 0, .int .i64 0, .int .i64 0, .int .i64 0, .int .i64 0, .int .i64 0, .int .i64 0, .string ⟨#[]⟩, .int .i64 0, .string ⟨#[]⟩] 25) = W := hW
  have HT : Hid (Tv w1 w2 W base q b (w2.heap.size + 1) L []) := hT
  have HS : Hid (W.heap.size = w2.heap.size + 2) := hs
  obtain ⟨U, hu⟩ : ∃ U, capN (numF (L.map Prod.fst) 7) = U := ⟨_, rfl⟩
  have HU : Hid (_) := hu
  have HN : Hid (ev3 (L.map Prod.fst) = { ev2 (L.map Prod.fst) with tax := U }) := by show _ = _; unfold ev3; rw [hu]
  have k0 : W.cell? ⟨w2.heap.size, 0, none⟩ = some (.int .i64 0) := hcl 0
  have k1 : W.cell? ⟨w2.heap.size, 1, none⟩ = some (.int .i64 0) := hcl 1
  have k2 : W.cell? ⟨w2.heap.size, 2, none⟩ = some (.int .i64 0) := hcl 2
  have k3 : W.cell? ⟨w2.heap.size, 3, none⟩ = some (.int .i64 0) := hcl 3
  have k4 : W.cell? ⟨w2.heap.size, 4, none⟩ = some (.int .i64 0) := hcl 4
  have k5 : W.cell? ⟨w2.heap.size, 5, none⟩ = some (.int .i64 0) := hcl 5
  have T1 : Hid True := trivial
  clear h hW hT hs hcl hu
  go_enter Tryd.func145, Tryd.ntmps145
  go_wp2_with (first
    | (go_at_call 141; refine (take2 w1 W base q b L HT.out.tk).mono ?_; rintro r x1 ⟨rfl, h1, h2⟩; have HT1 := HT.out.step h1 h2; have HXS : Hid (w2.heap.size + 2 ≤ x1.heap.size) := (by have h9 := h2.size; rw [HS.out] at h9; exact h9); have hb1 : Below x1.heap.size x1 (x1.alloc (.cells (evA zeroE) 25)) := (Below.refl _ _).alloc (Nat.le_refl _) _; clear HT h1 h2; have HT : Hid (Tv w1 w2 (x1.alloc (.cells (evA zeroE) 25)) base q b (w2.heap.size + 1) L tg2) := HT1.keep hb1; clear HT1 hb1)
    | ((with_reducible refine guard_store 25 ?_); clear T1; refine wpList_store_ev (e := zeroE) (e2 := ev2 (L.map Prod.fst)) rfl _ _ rfl (evAt_new x1 zeroE) rfl rfl ?_; intro x2 z1 z2 z3 z4; have HT1 := HT.out.pokes (evAt_new x1 zeroE) (by have := HXS.out; omega) (by have := HXS.out; omega) (os_of z2) z3 z4; clear HT z2 z3 z4; have HT : Hid (Tv w1 w2 x2 base q b (w2.heap.size + 1) L tg2) := HT1; have HE : Hid (EvAt x2 x1.heap.size (ev2 (L.map Prod.fst))) := z1; clear HT1 z1)
    | (go_at_call 136; refine (number_tk 7 w1 _ base q b L tg2 HT.out.tk (by unfold tg2; simp) (by decide)).mono ?_; rw [HU.out]; rintro r x3 ⟨rfl, h1, h2⟩; have HT1 := HT.out.step h1 h2; have he3 := HE.out.kept h2 (by have := HT.out.lts; have := HXS.out; omega) (by have := HT.out.lts; have := HXS.out; omega); have f0 := he3.froz 6; have f1 := he3.cells.2.2.2.2.2.2.1; clear HT HE h1 h2; have HT : Hid (Tv w1 w2 x3 base q b (w2.heap.size + 1) L tg3) := HT1; have HE : Hid (EvAt x3 x1.heap.size (ev2 (L.map Prod.fst))) := he3; clear HT1 he3)
    | ((with_reducible refine guard_load 25 ?_); refine wpList_load_ev (e := { ev2 (L.map Prod.fst) with tax := U }) rfl _ rfl (HE.out.set _ rfl) rfl ?_; have HT1 := HT.out.pokes (y := x3.setCell ⟨x1.heap.size, 6, none⟩ (.int .i64 U)) HE.out (by have := HXS.out; omega) (by have := HXS.out; omega) ⟨rfl, rfl, rfl⟩ (fun jj hj => heap_setCell_other x3 ⟨x1.heap.size, 6, none⟩ jj _ hj) (by simp); clear HT; have HT : Hid (_) := HT1; clear HT1)
    | ((with_reducible refine guard_store 25 ?_); refine wpList_store_ev (e := zeroE) (e2 := { ev2 (L.map Prod.fst) with tax := U }) rfl _ _ rfl (Tv.res HT.out) rfl rfl ?_; intro x5 z1 z2 z3 z4))
  rw [HN.out]
  exact bodyPost_ret (results_ev1 rfl _ _ _ rfl z1) rfl ⟨rfl, Tv.poke HT.out (Tv.res HT.out) (Tv.lts HT.out).2.2.1 (os_of z2) z3 z4⟩
set_option maxRecDepth 20000 in
set_option maxHeartbeats 1000000 in
theorem take4 (w1 w2 : World) (base q b : Nat) (L : List (Fld × Value)) (h : Tk w1 w2 base q b L []) :
    Calls Tryd.prog 148 #[.agg #[.int .i64 0, .int .i64 0, .int .i64 0, .int .i64 0, .int .i64 0, .int .i64 0, .int .i64 0, .string ⟨#[]⟩], .pointer (some ⟨q, 0, none⟩)] w2 fun r w3 => r = .returned (.agg (evA (ev4 (L.map Prod.fst)))) ∧ Tk w1 w3 base q b L tg4 ∧ Kept q b w2 w3 := by
  obtain ⟨W, hW, hT, hs, hcl⟩ := tv_of h #[.int .i64 0, .int .i64 0, .int .i64 0, .int .i64 0, .int .i64 0, .int .i64 0, .int .i64 0, .string ⟨#[]⟩] 165
  have hW2 : (w2.alloc (.cells #[.int .i64 0, .int .i64 0, .int .i64 0, .int .i64 0, .int .i64 0, .int .i64 0, .int .i64 0, .string ⟨#[]⟩] 165)).alloc (.cells #[.int .i64 0, .int .i64 0, .int .i64 0, .int .i64 0, .int .i64 0, .int .i64 0, .int .i64 0, .string ⟨#[]⟩, .int .i64 0, .string ⟨#[]⟩] 25) = W := hW
  have HT : Hid (Tv w1 w2 W base q b (w2.heap.size + 1) L []) := hT
  have HS : Hid (W.heap.size = w2.heap.size + 2) := hs
  obtain ⟨S, hu⟩ : ∃ S, str8 (txtF (L.map Prod.fst) 8) = S := ⟨_, rfl⟩
  have HU : Hid (_) := hu
  have HN : Hid (ev4 (L.map Prod.fst) = { ev3 (L.map Prod.fst) with who := S }) := by show _ = _; unfold ev4; rw [hu]
  have k0 : W.cell? ⟨w2.heap.size, 0, none⟩ = some (.int .i64 0) := hcl 0
  have k1 : W.cell? ⟨w2.heap.size, 1, none⟩ = some (.int .i64 0) := hcl 1
  have k2 : W.cell? ⟨w2.heap.size, 2, none⟩ = some (.int .i64 0) := hcl 2
  have k3 : W.cell? ⟨w2.heap.size, 3, none⟩ = some (.int .i64 0) := hcl 3
  have k4 : W.cell? ⟨w2.heap.size, 4, none⟩ = some (.int .i64 0) := hcl 4
  have k5 : W.cell? ⟨w2.heap.size, 5, none⟩ = some (.int .i64 0) := hcl 5
  have k6 : W.cell? ⟨w2.heap.size, 6, none⟩ = some (.int .i64 0) := hcl 6
  have T1 : Hid True := trivial
  clear h hW hT hs hcl hu
  go_enter Tryd.func148, Tryd.ntmps148
  go_wp2_with (first
    | (go_at_call 145; refine (take3 w1 W base q b L HT.out.tk).mono ?_; rintro r x1 ⟨rfl, h1, h2⟩; have HT1 := HT.out.step h1 h2; have HXS : Hid (w2.heap.size + 2 ≤ x1.heap.size) := (by have h9 := h2.size; rw [HS.out] at h9; exact h9); have hb1 : Below x1.heap.size x1 (x1.alloc (.cells (evA zeroE) 25)) := (Below.refl _ _).alloc (Nat.le_refl _) _; clear HT h1 h2; have HT : Hid (Tv w1 w2 (x1.alloc (.cells (evA zeroE) 25)) base q b (w2.heap.size + 1) L tg3) := HT1.keep hb1; clear HT1 hb1)
    | ((with_reducible refine guard_store 25 ?_); clear T1; refine wpList_store_ev (e := zeroE) (e2 := ev3 (L.map Prod.fst)) rfl _ _ rfl (evAt_new x1 zeroE) rfl rfl ?_; intro x2 z1 z2 z3 z4; have HT1 := HT.out.pokes (evAt_new x1 zeroE) (by have := HXS.out; omega) (by have := HXS.out; omega) (os_of z2) z3 z4; clear HT z2 z3 z4; have HT : Hid (Tv w1 w2 x2 base q b (w2.heap.size + 1) L tg3) := HT1; have HE : Hid (EvAt x2 x1.heap.size (ev3 (L.map Prod.fst))) := z1; clear HT1 z1)
    | (go_at_call 149; refine (text_tk 8 w1 _ base q b L tg3 HT.out.tk (by unfold tg3; simp) (by decide)).mono ?_; rintro r x3 ⟨tv, rfl, hto, h1, h2⟩; have hcn := conv_own hto; rw [HU.out] at hcn; have HT1 := HT.out.step h1 h2; have he3 := HE.out.kept h2 (by have := HT.out.lts; have := HXS.out; omega) (by have := HT.out.lts; have := HXS.out; omega); have f0 := he3.froz 7; have f1 := he3.cells.2.2.2.2.2.2.2.1; clear HT HE h1 h2 hto; have HT : Hid (Tv w1 w2 x3 base q b (w2.heap.size + 1) L tg4) := HT1; have HE : Hid (EvAt x3 x1.heap.size (ev3 (L.map Prod.fst))) := he3; clear HT1 he3)
    | ((with_reducible refine guard_load 25 ?_); refine wpList_load_ev (e := { ev3 (L.map Prod.fst) with who := S }) rfl _ rfl (HE.out.set _ rfl) rfl ?_; have HT1 := HT.out.pokes (y := x3.setCell ⟨x1.heap.size, 7, none⟩ (.string S)) HE.out (by have := HXS.out; omega) (by have := HXS.out; omega) ⟨rfl, rfl, rfl⟩ (fun jj hj => heap_setCell_other x3 ⟨x1.heap.size, 7, none⟩ jj _ hj) (by simp); clear HT; have HT : Hid (_) := HT1; clear HT1)
    | ((with_reducible refine guard_store 25 ?_); refine wpList_store_ev (e := zeroE) (e2 := { ev3 (L.map Prod.fst) with who := S }) rfl _ _ rfl (Tv.res HT.out) rfl rfl ?_; intro x5 z1 z2 z3 z4))
  rw [HN.out]
  exact bodyPost_ret (results_ev1 rfl _ _ _ rfl z1) rfl ⟨rfl, Tv.poke HT.out (Tv.res HT.out) (Tv.lts HT.out).2.2.1 (os_of z2) z3 z4⟩
set_option maxRecDepth 20000 in
set_option maxHeartbeats 2000000 in
theorem take5 (w1 w2 : World) (base q b : Nat) (L : List (Fld × Value)) (h : Tk w1 w2 base q b L []) :
    Calls Tryd.prog 151 #[.agg #[.int .i64 0, .int .i64 0, .int .i64 0, .int .i64 0, .int .i64 0, .int .i64 0, .int .i64 0, .string ⟨#[]⟩, .int .i64 0, .string ⟨#[]⟩], .pointer (some ⟨q, 0, none⟩)] w2 fun r w3 => r = .returned (.agg (evA (ev5 (L.map Prod.fst)))) ∧ Tk w1 w3 base q b L tg5 ∧ Kept q b w2 w3 := by
  obtain ⟨W, hW, hT, hs, hcl⟩ := tv_of h #[.int .i64 0, .int .i64 0, .int .i64 0, .int .i64 0, .int .i64 0, .int .i64 0, .int .i64 0, .string ⟨#[]⟩, .int .i64 0, .string ⟨#[]⟩] 167
  have hW2 : (w2.alloc (.cells #[.int .i64 0, .int .i64 0, .int .i64 0, .int .i64 0, .int .i64 0, .int .i64 0, .int .i64 0, .string ⟨#[]⟩, .int .i64 0, .string ⟨#[]⟩] 167)).alloc (.cells #[.int .i64 0, .int .i64 0, .int .i64 0, .int .i64 0, .int .i64 0, .int .i64 0, .int .i64 0, .string ⟨#[]⟩, .int .i64 0, .string ⟨#[]⟩] 25) = W := hW
  have HT : Hid (Tv w1 w2 W base q b (w2.heap.size + 1) L []) := hT
  have HS : Hid (W.heap.size = w2.heap.size + 2) := hs
  obtain ⟨U, hu⟩ : ∃ U, capN (numF (L.map Prod.fst) 9) = U := ⟨_, rfl⟩
  obtain ⟨S, hst⟩ : ∃ S, str8 (txtF (L.map Prod.fst) 10) = S := ⟨_, rfl⟩
  have HU : Hid (_) := hu
  have HST : Hid (_) := hst
  have HN : Hid (ev5 (L.map Prod.fst) = { ev4 (L.map Prod.fst) with stamp := U, note := S }) := by show _ = _; unfold ev5; rw [hu, hst]
  have k0 : W.cell? ⟨w2.heap.size, 0, none⟩ = some (.int .i64 0) := hcl 0
  have k1 : W.cell? ⟨w2.heap.size, 1, none⟩ = some (.int .i64 0) := hcl 1
  have k2 : W.cell? ⟨w2.heap.size, 2, none⟩ = some (.int .i64 0) := hcl 2
  have k3 : W.cell? ⟨w2.heap.size, 3, none⟩ = some (.int .i64 0) := hcl 3
  have k4 : W.cell? ⟨w2.heap.size, 4, none⟩ = some (.int .i64 0) := hcl 4
  have k5 : W.cell? ⟨w2.heap.size, 5, none⟩ = some (.int .i64 0) := hcl 5
  have k6 : W.cell? ⟨w2.heap.size, 6, none⟩ = some (.int .i64 0) := hcl 6
  have k7 : W.cell? ⟨w2.heap.size, 7, none⟩ = some (.string ⟨#[]⟩) := hcl 7
  have T1 : Hid True := trivial
  clear h hW hT hs hcl hu hst
  go_enter Tryd.func151, Tryd.ntmps151
  go_wp2_with (first
    | (go_at_call 148; refine (take4 w1 W base q b L HT.out.tk).mono ?_; rintro r x1 ⟨rfl, h1, h2⟩; have HT1 := HT.out.step h1 h2; have HXS : Hid (w2.heap.size + 2 ≤ x1.heap.size) := (by have h9 := h2.size; rw [HS.out] at h9; exact h9); have hb1 : Below x1.heap.size x1 (x1.alloc (.cells (evA zeroE) 25)) := (Below.refl _ _).alloc (Nat.le_refl _) _; clear HT h1 h2; have HT : Hid (Tv w1 w2 (x1.alloc (.cells (evA zeroE) 25)) base q b (w2.heap.size + 1) L tg4) := HT1.keep hb1; clear HT1 hb1)
    | ((with_reducible refine guard_store 25 ?_); clear T1; refine wpList_store_ev (e := zeroE) (e2 := ev4 (L.map Prod.fst)) rfl _ _ rfl (evAt_new x1 zeroE) rfl rfl ?_; intro x2 z1 z2 z3 z4; have HT1 := HT.out.pokes (evAt_new x1 zeroE) (by have := HXS.out; omega) (by have := HXS.out; omega) (os_of z2) z3 z4; clear HT z2 z3 z4; have HT : Hid (Tv w1 w2 x2 base q b (w2.heap.size + 1) L tg4) := HT1; have HE : Hid (EvAt x2 x1.heap.size (ev4 (L.map Prod.fst))) := z1; clear HT1 z1))
  go_region_with (first
    | (go_at_call 136; refine (number_tk 9 w1 _ base q b L tg4 (show Tk w1 x2.drew base q b L tg4 from HT.out.tk.keep (Below.refl _ _).drew) (by unfold tg4; simp) (by decide)).mono ?_; rw [HU.out]; rintro r x3 ⟨rfl, h1, h2⟩; have HTd : Tv w1 w2 x2.drew base q b (w2.heap.size + 1) L tg4 := HT.out.keep (Below.refl _ _).drew; have HT1 := HTd.step h1 h2; have he3 := (show EvAt x2.drew x1.heap.size (ev4 (L.map Prod.fst)) from HE.out).kept h2 (by have := HTd.lts; have := HXS.out; omega) (by have := HTd.lts; have := HXS.out; omega); clear HT HE h1 h2 HTd; have HT : Hid (Tv w1 w2 x3 base q b (w2.heap.size + 1) L (tg4 ++ [(9, false)])) := HT1; have HE : Hid (EvAt x3 x1.heap.size (ev4 (L.map Prod.fst))) := he3; clear HT1 he3)
    | (go_at_call 149; refine (text_tk 10 w1 _ base q b L (tg4 ++ [(9, false)]) HT.out.tk (by unfold tg4; simp) (by decide)).mono ?_; rintro r x4 ⟨tv, rfl, hto, h1, h2⟩; have hcn := conv_own hto; rw [HST.out] at hcn; have HT1 := HT.out.step h1 h2; have he3 := HE.out.kept h2 (by have := HT.out.lts; have := HXS.out; omega) (by have := HT.out.lts; have := HXS.out; omega); have f0 := he3.froz 8; have f1 := he3.cells.2.2.2.2.2.2.2.2.1; have g0 := he3.froz 9; have g1 := he3.cells.2.2.2.2.2.2.2.2.2; have hcn2 := conv_own (own_poke hto he3 8 (.int .i64 U)); rw [HST.out] at hcn2; clear HT HE h1 h2 hto; have HT : Hid (Tv w1 w2 x4 base q b (w2.heap.size + 1) L tg5) := HT1; have HE : Hid (EvAt x4 x1.heap.size (ev4 (L.map Prod.fst))) := he3; clear HT1 he3))
  all_goals go_wp2_with (first
    | ((with_reducible refine guard_load 25 ?_); have he8 : EvAt (x4.setCell ⟨x1.heap.size, 8, none⟩ (.int .i64 U)) x1.heap.size { ev4 (L.map Prod.fst) with stamp := U } := HE.out.set _ rfl; refine wpList_load_ev (e := { ev4 (L.map Prod.fst) with stamp := U, note := S }) rfl _ rfl (he8.set _ rfl) rfl ?_; have HT1 := (HT.out.pokes (y := x4.setCell ⟨x1.heap.size, 8, none⟩ (.int .i64 U)) HE.out (by have := HXS.out; omega) (by have := HXS.out; omega) ⟨rfl, rfl, rfl⟩ (fun jj hj => heap_setCell_other x4 ⟨x1.heap.size, 8, none⟩ jj _ hj) (by simp)).pokes (y := (x4.setCell ⟨x1.heap.size, 8, none⟩ (.int .i64 U)).setCell ⟨x1.heap.size, 9, none⟩ (.string S)) he8 (by have := HXS.out; omega) (by have := HXS.out; omega) ⟨rfl, rfl, rfl⟩ (fun jj hj => heap_setCell_other _ ⟨x1.heap.size, 9, none⟩ jj _ hj) (by simp); clear HT he8; have HT : Hid (_) := HT1; clear HT1)
    | ((with_reducible refine guard_store 25 ?_); refine wpList_store_ev (e := zeroE) (e2 := { ev4 (L.map Prod.fst) with stamp := U, note := S }) rfl _ _ rfl (Tv.res HT.out) rfl rfl ?_; intro x5 z1 z2 z3 z4))
  all_goals rw [HN.out]
  all_goals exact bodyPost_ret (results_ev1 rfl _ _ _ rfl z1) rfl ⟨rfl, Tv.poke HT.out (Tv.res HT.out) (Tv.lts HT.out).2.2.1 (os_of z2) z3 z4⟩
end Go.Proofs.YtofealmjggpacaaDoor
