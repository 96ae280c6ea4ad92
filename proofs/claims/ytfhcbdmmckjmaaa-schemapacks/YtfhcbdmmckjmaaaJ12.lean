/- Own texts, joined: Evc, Sd6, Sd7, Sd8. -/
import Derived.Test.YtfhcbdmmckjmaaaJ11
import Derived.Deep.RegionHeld3
namespace Go.Proofs.Ytfhcbdmmckjmaaa
open Go.ChangeShapes Go.WideShapes Go.ChangeAt Go.RowKit
theorem EvAt.cells {w : World} {b : Nat} {e : Ev} (h : EvAt w b e) : w.cell? ⟨b, 0, none⟩ = some (.int .i64 e.kind) ∧ w.cell? ⟨b, 1, none⟩ = some (.int .i64 e.order) ∧ w.cell? ⟨b, 2, none⟩ = some (.int .i64 e.item) ∧ w.cell? ⟨b, 3, none⟩ = some (.int .i64 e.qty) ∧ w.cell? ⟨b, 4, none⟩ = some (.int .i64 e.price) ∧ w.cell? ⟨b, 5, none⟩ = some (.int .i64 e.cur) ∧ w.cell? ⟨b, 6, none⟩ = some (.int .i64 e.tax) ∧ w.cell? ⟨b, 7, none⟩ = some (.string e.who) ∧ w.cell? ⟨b, 8, none⟩ = some (.int .i64 e.stamp) ∧ w.cell? ⟨b, 9, none⟩ = some (.string e.note) :=
  ⟨by rw [cell_of_row _ _ 0 _ _ _ h]; rfl, by rw [cell_of_row _ _ 1 _ _ _ h]; rfl, by rw [cell_of_row _ _ 2 _ _ _ h]; rfl, by rw [cell_of_row _ _ 3 _ _ _ h]; rfl, by rw [cell_of_row _ _ 4 _ _ _ h]; rfl, by rw [cell_of_row _ _ 5 _ _ _ h]; rfl, by rw [cell_of_row _ _ 6 _ _ _ h]; rfl, by rw [cell_of_row _ _ 7 _ _ _ h]; rfl, by rw [cell_of_row _ _ 8 _ _ _ h]; rfl, by rw [cell_of_row _ _ 9 _ _ _ h]; rfl⟩
end Go.Proofs.Ytfhcbdmmckjmaaa
namespace Go.Proofs.Ytfhcbdmmckjmaaa
open Go.ChangeShapes Go.WideShapes Go.ChangeAt Go.RowKit
set_option linter.unusedVariables false
/-- what version 1 takes -/
def ev1 (fs : List Fld) : Ev := ⟨capN (numF fs 1), capN (numF fs 2), capN (numF fs 3), 0, capN (numF fs 5), 0, 0, ⟨#[]⟩, 0, ⟨#[]⟩⟩
def ev2 (fs : List Fld) : Ev := { ev1 fs with cur := capN (numF fs 6) }
def ev3 (fs : List Fld) : Ev := { ev2 fs with tax := capN (numF fs 7) }
def ev4 (fs : List Fld) : Ev := { ev3 fs with who := str8 (txtF fs 8) }
def ev5 (fs : List Fld) : Ev := { ev4 fs with stamp := capN (numF fs 9), note := str8 (txtF fs 10) }
def tg1 : List (Int × Bool) := [(1, false), (2, false), (3, false), (5, false)]
def tg2 : List (Int × Bool) := [(1, false), (2, false), (3, false), (5, false), (6, false)]
def tg3 : List (Int × Bool) := [(1, false), (2, false), (3, false), (5, false), (6, false), (7, false)]
def tg4 : List (Int × Bool) := [(1, false), (2, false), (3, false), (5, false), (6, false), (7, false), (8, true)]
def tg5 : List (Int × Bool) := [(1, false), (2, false), (3, false), (5, false), (6, false), (7, false), (8, true), (9, false), (10, true)]
theorem Kept.chain {x y : Nat} {a b c : World} (h : Kept x y a b) (k : Kept x y b c) : Kept x y a c :=
  ⟨k.os.trans h.os, k.tape.trans h.tape, k.output.trans h.output, Nat.le_trans h.size k.size, fun j hj h1 h2 => (k.block j (Nat.lt_of_lt_of_le hj h.size) h1 h2).trans (h.block j hj h1 h2)⟩
theorem Kept.of_bel {x y : Nat} {a b : World} (h : Below a.heap.size a b) : Kept x y a b := ⟨h.os, h.tape, h.output, h.size, fun k hk _ _ => h.block k hk⟩
/-- while an event is taken: the reader, the answer's block rb (nought), all else as it was -/
structure Tv (w1 w2 x : World) (base q b rb : Nat) (L : List (Fld × Value)) (ts : List (Int × Bool)) : Prop where
  tk : Tk w1 x base q b L ts
  res : EvAt x rb zeroE
  kep : Kept q b w2 x
  lts : q < w2.heap.size ∧ b < w2.heap.size ∧ w2.heap.size ≤ rb ∧ w1.heap.size ≤ w2.heap.size
theorem Tv.step {w1 w2 x y : World} {base q b rb : Nat} {L : List (Fld × Value)} {ts ts' : List (Int × Bool)} (h : Tv w1 w2 x base q b rb L ts) (ht : Tk w1 y base q b L ts') (hk : Kept q b x y) : Tv w1 w2 y base q b rb L ts' :=
  ⟨ht, h.res.kept hk (by have := h.lts; omega) (by have := h.lts; omega), h.kep.chain hk, h.lts⟩
theorem Tv.keep {w1 w2 x y : World} {base q b rb : Nat} {L : List (Fld × Value)} {ts : List (Int × Bool)} (h : Tv w1 w2 x base q b rb L ts) (hb : Below x.heap.size x y) : Tv w1 w2 y base q b rb L ts :=
  h.step (h.tk.keep hb) (Kept.of_bel hb)
theorem tv_of {w1 w2 : World} {base q b : Nat} {L : List (Fld × Value)} {ts : List (Int × Bool)} (h : Tk w1 w2 base q b L ts) (arr : Array Value) (T : TypeId) :
    ∃ W, (w2.alloc (.cells arr T)).alloc (.cells (evA zeroE) 24) = W ∧ Tv w1 w2 W base q b (w2.heap.size + 1) L ts ∧ W.heap.size = w2.heap.size + 2 ∧ (∀ i, W.cell? ⟨w2.heap.size, i, none⟩ = arr[i]?) := by
  have hB : Below w2.heap.size w2 ((w2.alloc (.cells arr T)).alloc (.cells (evA zeroE) 24)) := (((Below.refl _ _).alloc (Nat.le_refl _) _).alloc (by simp) _)
  refine ⟨_, rfl, ⟨h.keep hB, ?_, Kept.of_bel hB, h.lts.1, h.lts.2, by omega, h.kep.size⟩, by simp, fun i => ?_⟩
  · have := evAt_new (w2.alloc (.cells arr T)) zeroE
    simpa using this
  · have h1 : ((w2.alloc (.cells arr T)).alloc (.cells (evA zeroE) 24)).heap[w2.heap.size]? = some (.cells arr T) := (Below.heap_alloc _ _ _ (by simp)).trans (heap_alloc_new w2 _)
    rw [cell_of_row _ _ i _ _ _ h1]
/-- a store into an event of the call's own -/
theorem Tv.poke {w1 w2 x y : World} {base q b rb : Nat} {L : List (Fld × Value)} {ts : List (Int × Bool)} (h : Tv w1 w2 x base q b rb L ts) {k : Nat} {e : Ev} (he : EvAt x k e) (hk : w2.heap.size ≤ k) (ho : y.os = x.os ∧ y.tape = x.tape ∧ y.output = x.output) (hj : ∀ j, j ≠ k → y.heap[j]? = x.heap[j]?) (hs : y.heap.size = x.heap.size) : Tk w1 y base q b L ts ∧ Kept q b w2 y := by
  obtain ⟨l1, l2, l3, l4⟩ := h.lts
  obtain ⟨n, D, hm, hr⟩ := h.tk.rd.map
  have hle : w2.heap.size ≤ x.heap.size := h.kep.size
  refine ⟨⟨⟨(hj q (by omega)).trans h.tk.rd.blk, ⟨n, D, owns_same hm (hj b (by omega)), hr⟩, fun p hp => own_other (h.tk.rd.byt p hp) (x := k) (y := k) (fun c hc => ?_) (fun c hc => ?_) (fun j _ j2 _ => hj j j2)⟩, ⟨ho.1.trans h.tk.kep.os, ho.2.1.trans h.tk.kep.tape, ho.2.2.trans h.tk.kep.output, by rw [hs]; omega, fun j j1 j2 j3 => (hj j (by omega)).trans (h.tk.kep.block j j1 j2 j3)⟩⟩, ⟨ho.1.trans h.kep.os, ho.2.1.trans h.kep.tape, ho.2.2.trans h.kep.output, by rw [hs]; exact hle, fun j j1 j2 j3 => (hj j (by omega)).trans (h.kep.block j j1 j2 j3)⟩⟩
  · unfold EvAt at he; rw [he] at hc; cases hc
  · unfold EvAt at he; rw [he] at hc; cases hc
theorem Tv.pokes {w1 w2 x y : World} {base q b rb : Nat} {L : List (Fld × Value)} {ts : List (Int × Bool)} (h : Tv w1 w2 x base q b rb L ts) {k : Nat} {e : Ev} (he : EvAt x k e) (hk : w2.heap.size ≤ k) (hne : rb ≠ k) (ho : y.os = x.os ∧ y.tape = x.tape ∧ y.output = x.output) (hj : ∀ j, j ≠ k → y.heap[j]? = x.heap[j]?) (hs : y.heap.size = x.heap.size) : Tv w1 w2 y base q b rb L ts :=
  ⟨(h.poke he hk ho hj hs).1, (hj rb hne).trans h.res, (h.poke he hk ho hj hs).2, h.lts⟩
theorem own_poke {w : World} {base : Nat} {v : Value} {l : List Nat} {k : Nat} {e : Ev} (h : Own w base v l) (he : EvAt w k e) (j : Nat) (x : Value) : Own (w.setCell ⟨k, j, none⟩ x) base v l :=
  own_other h (x := k) (y := k) (fun c hc => by unfold EvAt at he; rw [he] at hc; cases hc) (fun c hc => by unfold EvAt at he; rw [he] at hc; cases hc) (fun i _ i2 _ => heap_setCell_other w ⟨k, j, none⟩ i _ i2)
/-- what a store's law tells of the rest -/
theorem os_of {x y : World} {k : Nat} (h : ∀ B a, Below B a x → B ≤ k → Below B a y) : y.os = x.os ∧ y.tape = x.tape ∧ y.output = x.output :=
  have h1 := h 0 x (Below.refl _ _) (Nat.zero_le _)
  ⟨h1.os, h1.tape, h1.output⟩
theorem EvAt.set {w : World} {k j : Nat} {e e2 : Ev} (h : EvAt w k e) (v : Value) (he : (evA e).setIfInBounds j v = evA e2) : EvAt (w.setCell ⟨k, j, none⟩ v) k e2 := by
  unfold EvAt at h ⊢
  rw [heap_setCell_same w k j _ _ _ h, he]
theorem EvAt.froz {w : World} {k : Nat} {e : Ev} (h : EvAt w k e) (j : Nat) : w.frozen? ⟨k, j, none⟩ = false := frozen_of_row _ _ j _ _ h
set_option maxRecDepth 20000 in
set_option maxHeartbeats 1000000 in
theorem take1 (arr : Array Value) (w1 w2 : World) (base q b : Nat) (L : List (Fld × Value)) (h : Tk w1 w2 base q b L []) :
    Calls Try.prog 87 #[.agg arr, .pointer (some ⟨q, 0, none⟩)] w2 fun r w3 => r = .returned (.agg (evA (ev1 (L.map Prod.fst)))) ∧ Tk w1 w3 base q b L tg1 ∧ Kept q b w2 w3 := by
  obtain ⟨W, hW, hT, hs, _⟩ := tv_of h arr 85
  have HW : Hid (_ = W) := hW
  have HT : Hid (Tv w1 w2 W base q b (w2.heap.size + 1) L []) := hT
  obtain ⟨u1, hu1⟩ : ∃ u, capN (numF (L.map Prod.fst) 1) = u := ⟨_, rfl⟩
  obtain ⟨u2, hu2⟩ : ∃ u, capN (numF (L.map Prod.fst) 2) = u := ⟨_, rfl⟩
  obtain ⟨u3, hu3⟩ : ∃ u, capN (numF (L.map Prod.fst) 3) = u := ⟨_, rfl⟩
  obtain ⟨u5, hu5⟩ : ∃ u, capN (numF (L.map Prod.fst) 5) = u := ⟨_, rfl⟩
  have HU : Hid (ev1 (L.map Prod.fst) = ⟨u1, u2, u3, 0, u5, 0, 0, ⟨#[]⟩, 0, ⟨#[]⟩⟩) := by show _ = _; unfold ev1; rw [hu1, hu2, hu3, hu5]
  have H1 : Hid (_) := hu1
  have H2 : Hid (_) := hu2
  have H3 : Hid (_) := hu3
  have H5 : Hid (_) := hu5
  clear h hW hT hs hu1 hu2 hu3 hu5
  go_enter Try.func87, Try.ntmps87
  go_wp2_with (first
    | (go_at_call_of 90 (Value.int IntKind.i64 1); rw [show ((w2.alloc (.cells arr 85)).alloc (.cells #[.int .i64 0, .int .i64 0, .int .i64 0, .int .i64 0, .int .i64 0, .int .i64 0, .int .i64 0, .string ⟨#[]⟩, .int .i64 0, .string ⟨#[]⟩] 24)) = W from HW.out]; refine (number_tk 1 w1 W base q b L [] HT.out.tk (by simp) (by decide)).mono ?_; rw [H1.out]; rintro r x1 ⟨rfl, h1, h2⟩; have HT1 := HT.out.step h1 h2; clear HT h1 h2; have HT : Hid (Tv w1 w2 x1 base q b (w2.heap.size + 1) L [(1, false)]) := HT1; clear HT1)
    | (go_at_call_of 90 (Value.int IntKind.i64 2); refine (number_tk 2 w1 x1 base q b L [(1, false)] HT.out.tk (by simp) (by decide)).mono ?_; rw [H2.out]; rintro r x2 ⟨rfl, h1, h2⟩; have HT1 := HT.out.step h1 h2; clear HT h1 h2; have HT : Hid (Tv w1 w2 x2 base q b (w2.heap.size + 1) L [(1, false), (2, false)]) := HT1; clear HT1)
    | (go_at_call_of 90 (Value.int IntKind.i64 3); refine (number_tk 3 w1 x2 base q b L [(1, false), (2, false)] HT.out.tk (by simp) (by decide)).mono ?_; rw [H3.out]; rintro r x3 ⟨rfl, h1, h2⟩; have HT1 := HT.out.step h1 h2; clear HT h1 h2; have HT : Hid (Tv w1 w2 x3 base q b (w2.heap.size + 1) L [(1, false), (2, false), (3, false)]) := HT1; clear HT1)
    | (go_at_call_of 90 (Value.int IntKind.i64 5); refine (number_tk 5 w1 x3 base q b L [(1, false), (2, false), (3, false)] HT.out.tk (by simp) (by decide)).mono ?_; rw [H5.out]; rintro r x4 ⟨rfl, h1, h2⟩; have HT1 := HT.out.step h1 h2; clear HT h1 h2; have HT : Hid (Tv w1 w2 x4 base q b (w2.heap.size + 1) L tg1) := HT1; clear HT1)
    | ((with_reducible refine guard_store 24 ?_); refine wpList_store_ev (e := zeroE) (e2 := ⟨u1, u2, u3, 0, u5, 0, 0, ⟨#[]⟩, 0, ⟨#[]⟩⟩) rfl _ _ rfl HT.out.res rfl rfl ?_; intro x5 z1 z2 z3 z4))
  rw [HU.out]
  exact bodyPost_ret (results_ev1 rfl _ _ _ rfl z1) rfl ⟨rfl, HT.out.poke HT.out.res HT.out.lts.2.2.1 (os_of z2) z3 z4⟩
set_option maxRecDepth 20000 in
set_option maxHeartbeats 1000000 in
theorem take2 (w1 w2 : World) (base q b : Nat) (L : List (Fld × Value)) (h : Tk w1 w2 base q b L []) :
    Calls Try.prog 95 #[.agg #[.int .i64 0, .int .i64 0, .int .i64 0, .int .i64 0, .int .i64 0, .int .i64 0], .pointer (some ⟨q, 0, none⟩)] w2 fun r w3 => r = .returned (.agg (evA (ev2 (L.map Prod.fst)))) ∧ Tk w1 w3 base q b L tg2 ∧ Kept q b w2 w3 := by
  obtain ⟨W, hW, hT, hs, hcl⟩ := tv_of h #[.int .i64 0, .int .i64 0, .int .i64 0, .int .i64 0, .int .i64 0, .int .i64 0] 87
  have hW2 : (w2.alloc (.cells #[.int .i64 0, .int .i64 0, .int .i64 0, .int .i64 0, .int .i64 0, .int .i64 0] 87)).alloc (.cells #[.int .i64 0, .int .i64 0, .int .i64 0, .int .i64 0, .int .i64 0, .int .i64 0, .int .i64 0, .string ⟨#[]⟩, .int .i64 0, .string ⟨#[]⟩] 24) = W := hW
  have HT : Hid (Tv w1 w2 W base q b (w2.heap.size + 1) L []) := hT
  have HS : Hid (W.heap.size = w2.heap.size + 2) := hs
  obtain ⟨U, hu⟩ : ∃ U, capN (numF (L.map Prod.fst) 6) = U := ⟨_, rfl⟩
  have HU : Hid (_) := hu
  have HN : Hid (ev2 (L.map Prod.fst) = { ev1 (L.map Prod.fst) with cur := U }) := by show _ = _; unfold ev2; rw [hu]
  have k0 : W.cell? ⟨w2.heap.size, 0, none⟩ = some (.int .i64 0) := hcl 0
  have k1 : W.cell? ⟨w2.heap.size, 1, none⟩ = some (.int .i64 0) := hcl 1
  have k2 : W.cell? ⟨w2.heap.size, 2, none⟩ = some (.int .i64 0) := hcl 2
  have k3 : W.cell? ⟨w2.heap.size, 3, none⟩ = some (.int .i64 0) := hcl 3
  have k4 : W.cell? ⟨w2.heap.size, 4, none⟩ = some (.int .i64 0) := hcl 4
  have T1 : Hid True := trivial
  clear h hW hT hs hcl hu
  go_enter Try.func95, Try.ntmps95
  go_wp2_with (first
    | (go_at_call 87; refine (take1 _ w1 W base q b L HT.out.tk).mono ?_; rintro r x1 ⟨rfl, h1, h2⟩; have HT1 := HT.out.step h1 h2; have HXS : Hid (w2.heap.size + 2 ≤ x1.heap.size) := (by have h9 := h2.size; rw [HS.out] at h9; exact h9); have hb1 : Below x1.heap.size x1 (x1.alloc (.cells (evA zeroE) 24)) := (Below.refl _ _).alloc (Nat.le_refl _) _; clear HT h1 h2; have HT : Hid (Tv w1 w2 (x1.alloc (.cells (evA zeroE) 24)) base q b (w2.heap.size + 1) L tg1) := HT1.keep hb1; clear HT1 hb1)
    | ((with_reducible refine guard_store 24 ?_); clear T1; refine wpList_store_ev (e := zeroE) (e2 := ev1 (L.map Prod.fst)) rfl _ _ rfl (evAt_new x1 zeroE) rfl rfl ?_; intro x2 z1 z2 z3 z4; have HT1 := HT.out.pokes (evAt_new x1 zeroE) (by have := HXS.out; omega) (by have := HXS.out; omega) (os_of z2) z3 z4; clear HT z2 z3 z4; have HT : Hid (Tv w1 w2 x2 base q b (w2.heap.size + 1) L tg1) := HT1; have HE : Hid (EvAt x2 x1.heap.size (ev1 (L.map Prod.fst))) := z1; clear HT1 z1)
    | (go_at_call 90; refine (number_tk 6 w1 _ base q b L tg1 HT.out.tk (by unfold tg1; simp) (by decide)).mono ?_; rw [HU.out]; rintro r x3 ⟨rfl, h1, h2⟩; have HT1 := HT.out.step h1 h2; have he3 := HE.out.kept h2 (by have := HT.out.lts; have := HXS.out; omega) (by have := HT.out.lts; have := HXS.out; omega); have f0 := he3.froz 5; have f1 := he3.cells.2.2.2.2.2.1; clear HT HE h1 h2; have HT : Hid (Tv w1 w2 x3 base q b (w2.heap.size + 1) L tg2) := HT1; have HE : Hid (EvAt x3 x1.heap.size (ev1 (L.map Prod.fst))) := he3; clear HT1 he3)
    | ((with_reducible refine guard_load 24 ?_); refine wpList_load_ev (e := { ev1 (L.map Prod.fst) with cur := U }) rfl _ rfl (HE.out.set _ rfl) rfl ?_; have HT1 := HT.out.pokes (y := x3.setCell ⟨x1.heap.size, 5, none⟩ (.int .i64 U)) HE.out (by have := HXS.out; omega) (by have := HXS.out; omega) ⟨rfl, rfl, rfl⟩ (fun jj hj => heap_setCell_other x3 ⟨x1.heap.size, 5, none⟩ jj _ hj) (by simp); clear HT; have HT : Hid (_) := HT1; clear HT1)
    | ((with_reducible refine guard_store 24 ?_); refine wpList_store_ev (e := zeroE) (e2 := { ev1 (L.map Prod.fst) with cur := U }) rfl _ _ rfl (Tv.res HT.out) rfl rfl ?_; intro x5 z1 z2 z3 z4))
  rw [HN.out]
  exact bodyPost_ret (results_ev1 rfl _ _ _ rfl z1) rfl ⟨rfl, Tv.poke HT.out (Tv.res HT.out) (Tv.lts HT.out).2.2.1 (os_of z2) z3 z4⟩
set_option maxRecDepth 20000 in
set_option maxHeartbeats 1000000 in
theorem take3 (w1 w2 : World) (base q b : Nat) (L : List (Fld × Value)) (h : Tk w1 w2 base q b L []) :
    Calls Try.prog 99 #[.agg #[.int .i64 0, .int .i64 0, .int .i64 0, .int .i64 0, .int .i64 0, .int .i64 0, .int .i64 0], .pointer (some ⟨q, 0, none⟩)] w2 fun r w3 => r = .returned (.agg (evA (ev3 (L.map Prod.fst)))) ∧ Tk w1 w3 base q b L tg3 ∧ Kept q b w2 w3 := by
  obtain ⟨W, hW, hT, hs, hcl⟩ := tv_of h #[.int .i64 0, .int .i64 0, .int .i64 0, .int .i64 0, .int .i64 0, .int .i64 0, .int .i64 0] 89
  have hW2 : (w2.alloc (.cells #[.int .i64 0, .int .i64 0, .int .i64 0, .int .i64 0, .int .i64 0, .int .i64 0, .int .i64 0] 89)).alloc (.cells #[.int .i64 0, .int .i64 0, .int .i64 0, .int .i64 0, .int .i64 0, .int .i64 0, .int .i64 0, .string ⟨#[]⟩, .int .i64 0, .string ⟨#[]⟩] 24) = W := hW
  have HT : Hid (Tv w1 w2 W base q b (w2.heap.size + 1) L []) := hT
  have HS : Hid (W.heap.size = w2.heap.size + 2) := hs
  obtain ⟨U, hu⟩ : ∃ U, capN (numF (L.map Prod.fst) 7) = U := ⟨_, rfl⟩
  have HU : Hid (_) := hu
  have HN : Hid (ev3 (L.map Prod.fst) = { ev2 (L.map Prod.fst) with tax := U }) := by show _ = _; unfold ev3; rw [hu]
  have k0 : W.cell? ⟨w2.heap.size, 0, none⟩ = some (.int .i64 0) := hcl 0
  have k1 : W.cell? ⟨w2.heap.size, 1, none⟩ = some (.int .i64 0) := hcl 1
  have k2 : W.cell? ⟨w2.heap.size, 2, none⟩ = some (.int .i64 0) := hcl 2
  have k3 : W.cell? ⟨w2.heap.size, 3, none⟩ = some (.int .i64 0) := hcl 3
  have k4 : W.cell? ⟨w2.heap.size, 4, none⟩ = some (.int .i64 0) := hcl 4
  have k5 : W.cell? ⟨w2.heap.size, 5, none⟩ = some (.int .i64 0) := hcl 5
  have T1 : Hid True := trivial
  clear h hW hT hs hcl hu
  go_enter Try.func99, Try.ntmps99
  go_wp2_with (first
    | (go_at_call 95; refine (take2 w1 W base q b L HT.out.tk).mono ?_; rintro r x1 ⟨rfl, h1, h2⟩; have HT1 := HT.out.step h1 h2; have HXS : Hid (w2.heap.size + 2 ≤ x1.heap.size) := (by have h9 := h2.size; rw [HS.out] at h9; exact h9); have hb1 : Below x1.heap.size x1 (x1.alloc (.cells (evA zeroE) 24)) := (Below.refl _ _).alloc (Nat.le_refl _) _; clear HT h1 h2; have HT : Hid (Tv w1 w2 (x1.alloc (.cells (evA zeroE) 24)) base q b (w2.heap.size + 1) L tg2) := HT1.keep hb1; clear HT1 hb1)
    | ((with_reducible refine guard_store 24 ?_); clear T1; refine wpList_store_ev (e := zeroE) (e2 := ev2 (L.map Prod.fst)) rfl _ _ rfl (evAt_new x1 zeroE) rfl rfl ?_; intro x2 z1 z2 z3 z4; have HT1 := HT.out.pokes (evAt_new x1 zeroE) (by have := HXS.out; omega) (by have := HXS.out; omega) (os_of z2) z3 z4; clear HT z2 z3 z4; have HT : Hid (Tv w1 w2 x2 base q b (w2.heap.size + 1) L tg2) := HT1; have HE : Hid (EvAt x2 x1.heap.size (ev2 (L.map Prod.fst))) := z1; clear HT1 z1)
    | (go_at_call 90; refine (number_tk 7 w1 _ base q b L tg2 HT.out.tk (by unfold tg2; simp) (by decide)).mono ?_; rw [HU.out]; rintro r x3 ⟨rfl, h1, h2⟩; have HT1 := HT.out.step h1 h2; have he3 := HE.out.kept h2 (by have := HT.out.lts; have := HXS.out; omega) (by have := HT.out.lts; have := HXS.out; omega); have f0 := he3.froz 6; have f1 := he3.cells.2.2.2.2.2.2.1; clear HT HE h1 h2; have HT : Hid (Tv w1 w2 x3 base q b (w2.heap.size + 1) L tg3) := HT1; have HE : Hid (EvAt x3 x1.heap.size (ev2 (L.map Prod.fst))) := he3; clear HT1 he3)
    | ((with_reducible refine guard_load 24 ?_); refine wpList_load_ev (e := { ev2 (L.map Prod.fst) with tax := U }) rfl _ rfl (HE.out.set _ rfl) rfl ?_; have HT1 := HT.out.pokes (y := x3.setCell ⟨x1.heap.size, 6, none⟩ (.int .i64 U)) HE.out (by have := HXS.out; omega) (by have := HXS.out; omega) ⟨rfl, rfl, rfl⟩ (fun jj hj => heap_setCell_other x3 ⟨x1.heap.size, 6, none⟩ jj _ hj) (by simp); clear HT; have HT : Hid (_) := HT1; clear HT1)
    | ((with_reducible refine guard_store 24 ?_); refine wpList_store_ev (e := zeroE) (e2 := { ev2 (L.map Prod.fst) with tax := U }) rfl _ _ rfl (Tv.res HT.out) rfl rfl ?_; intro x5 z1 z2 z3 z4))
  rw [HN.out]
  exact bodyPost_ret (results_ev1 rfl _ _ _ rfl z1) rfl ⟨rfl, Tv.poke HT.out (Tv.res HT.out) (Tv.lts HT.out).2.2.1 (os_of z2) z3 z4⟩
set_option maxRecDepth 20000 in
set_option maxHeartbeats 1000000 in
theorem take4 (w1 w2 : World) (base q b : Nat) (L : List (Fld × Value)) (h : Tk w1 w2 base q b L []) :
    Calls Try.prog 102 #[.agg #[.int .i64 0, .int .i64 0, .int .i64 0, .int .i64 0, .int .i64 0, .int .i64 0, .int .i64 0, .string ⟨#[]⟩], .pointer (some ⟨q, 0, none⟩)] w2 fun r w3 => r = .returned (.agg (evA (ev4 (L.map Prod.fst)))) ∧ Tk w1 w3 base q b L tg4 ∧ Kept q b w2 w3 := by
  obtain ⟨W, hW, hT, hs, hcl⟩ := tv_of h #[.int .i64 0, .int .i64 0, .int .i64 0, .int .i64 0, .int .i64 0, .int .i64 0, .int .i64 0, .string ⟨#[]⟩] 91
  have hW2 : (w2.alloc (.cells #[.int .i64 0, .int .i64 0, .int .i64 0, .int .i64 0, .int .i64 0, .int .i64 0, .int .i64 0, .string ⟨#[]⟩] 91)).alloc (.cells #[.int .i64 0, .int .i64 0, .int .i64 0, .int .i64 0, .int .i64 0, .int .i64 0, .int .i64 0, .string ⟨#[]⟩, .int .i64 0, .string ⟨#[]⟩] 24) = W := hW
  have HT : Hid (Tv w1 w2 W base q b (w2.heap.size + 1) L []) := hT
  have HS : Hid (W.heap.size = w2.heap.size + 2) := hs
  obtain ⟨S, hu⟩ : ∃ S, str8 (txtF (L.map Prod.fst) 8) = S := ⟨_, rfl⟩
  have HU : Hid (_) := hu
  have HN : Hid (ev4 (L.map Prod.fst) = { ev3 (L.map Prod.fst) with who := S }) := by show _ = _; unfold ev4; rw [hu]
  have k0 : W.cell? ⟨w2.heap.size, 0, none⟩ = some (.int .i64 0) := hcl 0
  have k1 : W.cell? ⟨w2.heap.size, 1, none⟩ = some (.int .i64 0) := hcl 1
  have k2 : W.cell? ⟨w2.heap.size, 2, none⟩ = some (.int .i64 0) := hcl 2
  have k3 : W.cell? ⟨w2.heap.size, 3, none⟩ = some (.int .i64 0) := hcl 3
  have k4 : W.cell? ⟨w2.heap.size, 4, none⟩ = some (.int .i64 0) := hcl 4
  have k5 : W.cell? ⟨w2.heap.size, 5, none⟩ = some (.int .i64 0) := hcl 5
  have k6 : W.cell? ⟨w2.heap.size, 6, none⟩ = some (.int .i64 0) := hcl 6
  have T1 : Hid True := trivial
  clear h hW hT hs hcl hu
  go_enter Try.func102, Try.ntmps102
  go_wp2_with (first
    | (go_at_call 99; refine (take3 w1 W base q b L HT.out.tk).mono ?_; rintro r x1 ⟨rfl, h1, h2⟩; have HT1 := HT.out.step h1 h2; have HXS : Hid (w2.heap.size + 2 ≤ x1.heap.size) := (by have h9 := h2.size; rw [HS.out] at h9; exact h9); have hb1 : Below x1.heap.size x1 (x1.alloc (.cells (evA zeroE) 24)) := (Below.refl _ _).alloc (Nat.le_refl _) _; clear HT h1 h2; have HT : Hid (Tv w1 w2 (x1.alloc (.cells (evA zeroE) 24)) base q b (w2.heap.size + 1) L tg3) := HT1.keep hb1; clear HT1 hb1)
    | ((with_reducible refine guard_store 24 ?_); clear T1; refine wpList_store_ev (e := zeroE) (e2 := ev3 (L.map Prod.fst)) rfl _ _ rfl (evAt_new x1 zeroE) rfl rfl ?_; intro x2 z1 z2 z3 z4; have HT1 := HT.out.pokes (evAt_new x1 zeroE) (by have := HXS.out; omega) (by have := HXS.out; omega) (os_of z2) z3 z4; clear HT z2 z3 z4; have HT : Hid (Tv w1 w2 x2 base q b (w2.heap.size + 1) L tg3) := HT1; have HE : Hid (EvAt x2 x1.heap.size (ev3 (L.map Prod.fst))) := z1; clear HT1 z1)
    | (go_at_call 103; refine (text_tk 8 w1 _ base q b L tg3 HT.out.tk (by unfold tg3; simp) (by decide)).mono ?_; rintro r x3 ⟨tv, rfl, hto, h1, h2⟩; have hcn := conv_own hto; rw [HU.out] at hcn; have HT1 := HT.out.step h1 h2; have he3 := HE.out.kept h2 (by have := HT.out.lts; have := HXS.out; omega) (by have := HT.out.lts; have := HXS.out; omega); have f0 := he3.froz 7; have f1 := he3.cells.2.2.2.2.2.2.2.1; clear HT HE h1 h2 hto; have HT : Hid (Tv w1 w2 x3 base q b (w2.heap.size + 1) L tg4) := HT1; have HE : Hid (EvAt x3 x1.heap.size (ev3 (L.map Prod.fst))) := he3; clear HT1 he3)
    | ((with_reducible refine guard_load 24 ?_); refine wpList_load_ev (e := { ev3 (L.map Prod.fst) with who := S }) rfl _ rfl (HE.out.set _ rfl) rfl ?_; have HT1 := HT.out.pokes (y := x3.setCell ⟨x1.heap.size, 7, none⟩ (.string S)) HE.out (by have := HXS.out; omega) (by have := HXS.out; omega) ⟨rfl, rfl, rfl⟩ (fun jj hj => heap_setCell_other x3 ⟨x1.heap.size, 7, none⟩ jj _ hj) (by simp); clear HT; have HT : Hid (_) := HT1; clear HT1)
    | ((with_reducible refine guard_store 24 ?_); refine wpList_store_ev (e := zeroE) (e2 := { ev3 (L.map Prod.fst) with who := S }) rfl _ _ rfl (Tv.res HT.out) rfl rfl ?_; intro x5 z1 z2 z3 z4))
  rw [HN.out]
  exact bodyPost_ret (results_ev1 rfl _ _ _ rfl z1) rfl ⟨rfl, Tv.poke HT.out (Tv.res HT.out) (Tv.lts HT.out).2.2.1 (os_of z2) z3 z4⟩
set_option maxRecDepth 20000 in
set_option maxHeartbeats 2000000 in
theorem take5 (w1 w2 : World) (base q b : Nat) (L : List (Fld × Value)) (h : Tk w1 w2 base q b L []) :
    Calls Try.prog 105 #[.agg #[.int .i64 0, .int .i64 0, .int .i64 0, .int .i64 0, .int .i64 0, .int .i64 0, .int .i64 0, .string ⟨#[]⟩, .int .i64 0, .string ⟨#[]⟩], .pointer (some ⟨q, 0, none⟩)] w2 fun r w3 => r = .returned (.agg (evA (ev5 (L.map Prod.fst)))) ∧ Tk w1 w3 base q b L tg5 ∧ Kept q b w2 w3 := by
  obtain ⟨W, hW, hT, hs, hcl⟩ := tv_of h #[.int .i64 0, .int .i64 0, .int .i64 0, .int .i64 0, .int .i64 0, .int .i64 0, .int .i64 0, .string ⟨#[]⟩, .int .i64 0, .string ⟨#[]⟩] 93
  have hW2 : (w2.alloc (.cells #[.int .i64 0, .int .i64 0, .int .i64 0, .int .i64 0, .int .i64 0, .int .i64 0, .int .i64 0, .string ⟨#[]⟩, .int .i64 0, .string ⟨#[]⟩] 93)).alloc (.cells #[.int .i64 0, .int .i64 0, .int .i64 0, .int .i64 0, .int .i64 0, .int .i64 0, .int .i64 0, .string ⟨#[]⟩, .int .i64 0, .string ⟨#[]⟩] 24) = W := hW
  have HT : Hid (Tv w1 w2 W base q b (w2.heap.size + 1) L []) := hT
  have HS : Hid (W.heap.size = w2.heap.size + 2) := hs
  obtain ⟨U, hu⟩ : ∃ U, capN (numF (L.map Prod.fst) 9) = U := ⟨_, rfl⟩
  obtain ⟨S, hst⟩ : ∃ S, str8 (txtF (L.map Prod.fst) 10) = S := ⟨_, rfl⟩
  have HU : Hid (_) := hu
  have HST : Hid (_) := hst
  have HN : Hid (ev5 (L.map Prod.fst) = { ev4 (L.map Prod.fst) with stamp := U, note := S }) := by show _ = _; unfold ev5; rw [hu, hst]
  have k0 : W.cell? ⟨w2.heap.size, 0, none⟩ = some (.int .i64 0) := hcl 0
  have k1 : W.cell? ⟨w2.heap.size, 1, none⟩ = some (.int .i64 0) := hcl 1
  have k2 : W.cell? ⟨w2.heap.size, 2, none⟩ = some (.int .i64 0) := hcl 2
  have k3 : W.cell? ⟨w2.heap.size, 3, none⟩ = some (.int .i64 0) := hcl 3
  have k4 : W.cell? ⟨w2.heap.size, 4, none⟩ = some (.int .i64 0) := hcl 4
  have k5 : W.cell? ⟨w2.heap.size, 5, none⟩ = some (.int .i64 0) := hcl 5
  have k6 : W.cell? ⟨w2.heap.size, 6, none⟩ = some (.int .i64 0) := hcl 6
  have k7 : W.cell? ⟨w2.heap.size, 7, none⟩ = some (.string ⟨#[]⟩) := hcl 7
  have T1 : Hid True := trivial
  clear h hW hT hs hcl hu hst
  go_enter Try.func105, Try.ntmps105
  go_wp2_with (first
    | (go_at_call 102; refine (take4 w1 W base q b L HT.out.tk).mono ?_; rintro r x1 ⟨rfl, h1, h2⟩; have HT1 := HT.out.step h1 h2; have HXS : Hid (w2.heap.size + 2 ≤ x1.heap.size) := (by have h9 := h2.size; rw [HS.out] at h9; exact h9); have hb1 : Below x1.heap.size x1 (x1.alloc (.cells (evA zeroE) 24)) := (Below.refl _ _).alloc (Nat.le_refl _) _; clear HT h1 h2; have HT : Hid (Tv w1 w2 (x1.alloc (.cells (evA zeroE) 24)) base q b (w2.heap.size + 1) L tg4) := HT1.keep hb1; clear HT1 hb1)
    | ((with_reducible refine guard_store 24 ?_); clear T1; refine wpList_store_ev (e := zeroE) (e2 := ev4 (L.map Prod.fst)) rfl _ _ rfl (evAt_new x1 zeroE) rfl rfl ?_; intro x2 z1 z2 z3 z4; have HT1 := HT.out.pokes (evAt_new x1 zeroE) (by have := HXS.out; omega) (by have := HXS.out; omega) (os_of z2) z3 z4; clear HT z2 z3 z4; have HT : Hid (Tv w1 w2 x2 base q b (w2.heap.size + 1) L tg4) := HT1; have HE : Hid (EvAt x2 x1.heap.size (ev4 (L.map Prod.fst))) := z1; clear HT1 z1))
  go_region_with (first
    | (go_at_call 90; refine (number_tk 9 w1 _ base q b L tg4 (show Tk w1 x2.drew base q b L tg4 from HT.out.tk.keep (Below.refl _ _).drew) (by unfold tg4; simp) (by decide)).mono ?_; rw [HU.out]; rintro r x3 ⟨rfl, h1, h2⟩; have HTd : Tv w1 w2 x2.drew base q b (w2.heap.size + 1) L tg4 := HT.out.keep (Below.refl _ _).drew; have HT1 := HTd.step h1 h2; have he3 := (show EvAt x2.drew x1.heap.size (ev4 (L.map Prod.fst)) from HE.out).kept h2 (by have := HTd.lts; have := HXS.out; omega) (by have := HTd.lts; have := HXS.out; omega); clear HT HE h1 h2 HTd; have HT : Hid (Tv w1 w2 x3 base q b (w2.heap.size + 1) L (tg4 ++ [(9, false)])) := HT1; have HE : Hid (EvAt x3 x1.heap.size (ev4 (L.map Prod.fst))) := he3; clear HT1 he3)
    | (go_at_call 103; refine (text_tk 10 w1 _ base q b L (tg4 ++ [(9, false)]) HT.out.tk (by unfold tg4; simp) (by decide)).mono ?_; rintro r x4 ⟨tv, rfl, hto, h1, h2⟩; have hcn := conv_own hto; rw [HST.out] at hcn; have HT1 := HT.out.step h1 h2; have he3 := HE.out.kept h2 (by have := HT.out.lts; have := HXS.out; omega) (by have := HT.out.lts; have := HXS.out; omega); have f0 := he3.froz 8; have f1 := he3.cells.2.2.2.2.2.2.2.2.1; have g0 := he3.froz 9; have g1 := he3.cells.2.2.2.2.2.2.2.2.2; have hcn2 := conv_own (own_poke hto he3 8 (.int .i64 U)); rw [HST.out] at hcn2; clear HT HE h1 h2 hto; have HT : Hid (Tv w1 w2 x4 base q b (w2.heap.size + 1) L tg5) := HT1; have HE : Hid (EvAt x4 x1.heap.size (ev4 (L.map Prod.fst))) := he3; clear HT1 he3))
  all_goals go_wp2_with (first
    | ((with_reducible refine guard_load 24 ?_); have he8 : EvAt (x4.setCell ⟨x1.heap.size, 8, none⟩ (.int .i64 U)) x1.heap.size { ev4 (L.map Prod.fst) with stamp := U } := HE.out.set _ rfl; refine wpList_load_ev (e := { ev4 (L.map Prod.fst) with stamp := U, note := S }) rfl _ rfl (he8.set _ rfl) rfl ?_; have HT1 := (HT.out.pokes (y := x4.setCell ⟨x1.heap.size, 8, none⟩ (.int .i64 U)) HE.out (by have := HXS.out; omega) (by have := HXS.out; omega) ⟨rfl, rfl, rfl⟩ (fun jj hj => heap_setCell_other x4 ⟨x1.heap.size, 8, none⟩ jj _ hj) (by simp)).pokes (y := (x4.setCell ⟨x1.heap.size, 8, none⟩ (.int .i64 U)).setCell ⟨x1.heap.size, 9, none⟩ (.string S)) he8 (by have := HXS.out; omega) (by have := HXS.out; omega) ⟨rfl, rfl, rfl⟩ (fun jj hj => heap_setCell_other _ ⟨x1.heap.size, 9, none⟩ jj _ hj) (by simp); clear HT he8; have HT : Hid (_) := HT1; clear HT1)
    | ((with_reducible refine guard_store 24 ?_); refine wpList_store_ev (e := zeroE) (e2 := { ev4 (L.map Prod.fst) with stamp := U, note := S }) rfl _ _ rfl (Tv.res HT.out) rfl rfl ?_; intro x5 z1 z2 z3 z4))
  all_goals rw [HN.out]
  all_goals exact bodyPost_ret (results_ev1 rfl _ _ _ rfl z1) rfl ⟨rfl, Tv.poke HT.out (Tv.res HT.out) (Tv.lts HT.out).2.2.1 (os_of z2) z3 z4⟩
end Go.Proofs.Ytfhcbdmmckjmaaa
namespace Go.Proofs.Ytfhcbdmmckjmaaa
open Go.ChangeShapes Go.WideShapes Go.ChangeAt Go.RowKit
set_option linter.unusedVariables false
theorem Tk.poke {w1 x y : World} {base q b : Nat} {L : List (Fld × Value)} {ts : List (Int × Bool)} (h : Tk w1 x base q b L ts) {k : Nat} {e : Ev} (he : EvAt x k e) (hk : w1.heap.size ≤ k) (ho : y.os = x.os ∧ y.tape = x.tape ∧ y.output = x.output) (hj : ∀ j, j ≠ k → y.heap[j]? = x.heap[j]?) (hs : y.heap.size = x.heap.size) : Tk w1 y base q b L ts := by
  obtain ⟨n, D, hm, hr⟩ := h.rd.map
  obtain ⟨es, c, hbm⟩ := map_blk hm
  have hqk : q ≠ k := by
    intro hh
    have h1 := h.rd.blk
    unfold EvAt at he
    rw [hh, he] at h1
    cases h1
  have hbk : b ≠ k := by
    intro hh
    unfold EvAt at he
    rw [hh, he] at hbm
    cases hbm
  refine ⟨⟨(hj q hqk).trans h.rd.blk, ⟨n, D, owns_same hm (hj b hbk), hr⟩, fun p hp => own_other (h.rd.byt p hp) (x := k) (y := k) (fun c hc => ?_) (fun c hc => ?_) (fun j _ j2 _ => hj j j2)⟩, ⟨ho.1.trans h.kep.os, ho.2.1.trans h.kep.tape, ho.2.2.trans h.kep.output, by rw [hs]; exact h.kep.size, fun j j1 j2 j3 => (hj j (by omega)).trans (h.kep.block j j1 j2 j3)⟩⟩
  · unfold EvAt at he; rw [he] at hc; cases hc
  · unfold EvAt at he; rw [he] at hc; cases hc
/-- while schema.Decode reads: the reader, the answer's block (nought), nothing older has turned -/
structure Dv (w w3 x : World) (base q b : Nat) (L : List (Fld × Value)) (ts : List (Int × Bool)) : Prop where
  tk : Tk w3 x base q b L ts
  res : EvAt x w.heap.size zeroE
  bel : Below w.heap.size w x
  lts : w.heap.size < q ∧ w.heap.size < b ∧ w.heap.size < w3.heap.size
theorem Dv.step {w w3 x y : World} {base q b : Nat} {L : List (Fld × Value)} {ts ts' : List (Int × Bool)} (h : Dv w w3 x base q b L ts) (ht : Tk w3 y base q b L ts') (hk : Kept q b x y) : Dv w w3 y base q b L ts' := by
  obtain ⟨l1, l2, l3⟩ := h.lts
  exact ⟨ht, h.res.kept hk (by omega) (by omega), ⟨hk.os.trans h.bel.os, hk.tape.trans h.bel.tape, hk.output.trans h.bel.output, Nat.le_trans h.bel.size hk.size, fun j hj => (hk.block j (Nat.lt_of_lt_of_le hj h.bel.size) (by omega) (by omega)).trans (h.bel.block j hj)⟩, l1, l2, l3⟩
theorem Dv.keep {w w3 x y : World} {base q b : Nat} {L : List (Fld × Value)} {ts : List (Int × Bool)} (h : Dv w w3 x base q b L ts) (hb : Below x.heap.size x y) : Dv w w3 y base q b L ts :=
  h.step (h.tk.keep hb) (Kept.of_bel hb)
theorem Dv.poke {w w3 x y : World} {base q b : Nat} {L : List (Fld × Value)} {ts : List (Int × Bool)} (h : Dv w w3 x base q b L ts) {k : Nat} {e : Ev} (he : EvAt x k e) (hk : w3.heap.size ≤ k) (ho : y.os = x.os ∧ y.tape = x.tape ∧ y.output = x.output) (hj : ∀ j, j ≠ k → y.heap[j]? = x.heap[j]?) (hs : y.heap.size = x.heap.size) : Dv w w3 y base q b L ts := by
  obtain ⟨l1, l2, l3⟩ := h.lts
  exact ⟨h.tk.poke he hk ho hj hs, (hj _ (by omega)).trans h.res, ⟨ho.1.trans h.bel.os, ho.2.1.trans h.bel.tape, ho.2.2.trans h.bel.output, by rw [hs]; exact h.bel.size, fun j hjj => (hj j (by omega)).trans (h.bel.block j hjj)⟩, l1, l2, l3⟩
theorem Dv.fin {w x y : World} (h : Below w.heap.size w x) {e2 : Ev} (hs : ∀ B a, Below B a x → B ≤ w.heap.size → Below B a y) : Below w.heap.size w y := hs _ _ h (Nat.le_refl _)
/-- what schema.Decode answers, given what the version takes -/
def sdR (v : Int) (ev : List Fld → Ev) (Q : List Fld → Int) (tgs : List (Int × Bool)) (l : List Nat) : Ev × Int :=
  if (recs l).2.2 ≠ 0 then (zeroE, (recs l).2.2)
  else if errR (tkF (recs l).1 tgs) (tkE (recs l).1 tgs) ≠ 0 then (zeroE, errR (tkF (recs l).1 tgs) (tkE (recs l).1 tgs))
  else if chk v { ev (recs l).1 with qty := Q (recs l).1 } ≠ 0 then (zeroE, chk v { ev (recs l).1 with qty := Q (recs l).1 })
  else ({ ev (recs l).1 with qty := Q (recs l).1 }, 0)
theorem sd_no (v : Int) (a : Option Addr) (n cap : Nat) (w : World) (hv : v < 1 ∨ 5 < v) :
    Calls Try.prog 17 #[.int .i64 v, .slice a n cap] w fun r w' => r = .returned (.tuple #[.agg (evA zeroE), .int .i64 30]) ∧ Below w.heap.size w w' := by
  have HV : Hid (_) := hv
  have HA : Hid (EvAt (w.alloc (.cells (evA zeroE) 24)) w.heap.size zeroE) := evAt_new w zeroE
  have HAB : Hid (Below w.heap.size w (w.alloc (.cells (evA zeroE) 24))) := (Below.refl _ _).alloc (Nat.le_refl _) _
  clear hv
  go_enter Try.func17, Try.ntmps17
  go_wp2_with (first
    | (go_at_call 22; refine (find_no v _ HV.out).mono ?_; rintro _ w2 ⟨rfl, rfl⟩)
    | ((with_reducible refine guard_store 24 ?_); refine wpList_store_ev (e := zeroE) (e2 := zeroE) rfl _ _ rfl HA.out rfl rfl ?_; intro x5 z1 z2 z3 z4))
  exact bodyPost_ret (results_ev rfl _ _ _ _ _ rfl rfl z1) rfl ⟨rfl, z2 _ _ HAB.out (Nat.le_refl _)⟩
set_option maxRecDepth 20000 in
set_option maxHeartbeats 1000000 in
theorem sd_bad (v : Int) (T : Nat) (V : Value) (l : List Nat) (a : Option Addr) (n cap : Nat) (w : World) (hn : l.length = n) (hb : Bytes w a l) (hcap : n ≤ cap) (hm : n ≤ maxLen) (hv1 : 1 ≤ v) (hv5 : v ≤ 5) (hver : verV v = .iface T V) (he : (recs l).2.2 ≠ 0) :
    Calls Try.prog 17 #[.int .i64 v, .slice a n cap] w fun r w' => r = .returned (.tuple #[.agg (evA zeroE), .int .i64 ((recs l).2.2 : Int)]) ∧ Below w.heap.size w w' := by
  have HV : Hid (1 ≤ v ∧ v ≤ 5) := ⟨hv1, hv5⟩
  have HVR : Hid (_) := hver
  have HN : Hid (_) := hn
  have HE : Hid (_) := he
  have HA : Hid (EvAt (w.alloc (.cells (evA zeroE) 24)) w.heap.size zeroE) := evAt_new w zeroE
  have hAB : Below w.heap.size w (w.alloc (.cells (evA zeroE) 24)) := (Below.refl _ _).alloc (Nat.le_refl _) _
  have HAB : Hid (Below w.heap.size w (w.alloc (.cells (evA zeroE) 24))) := hAB
  have HBY : Hid (Bytes (w.alloc (.cells (evA zeroE) 24)) a l) := hb.keep hAB
  obtain ⟨e, hE⟩ : ∃ e, (recs l).2.2 = e := ⟨_, rfl⟩
  have HEE : Hid (_) := hE
  rw [hE] at he ⊢
  have heb : ((e : Int) != 0) = true := by simp; omega
  have heb2 : ¬ (e : Int) = 0 := by omega
  clear hn hb hAB hv1 hv5 hver he hE
  go_enter Try.func17, Try.ntmps17
  go_wp2_with (first
    | (go_at_call 22; refine (find_yes v _ HV.out.1 HV.out.2).mono ?_; rw [HVR.out]; rintro _ w2 ⟨rfl, rfl⟩)
    | (go_at_call 37; refine (newr_bad l a n cap _ HN.out HBY.out hcap hm HE.out).mono ?_; rw [HEE.out]; rintro r w3 ⟨rfl, hb3⟩; have HB3 : Hid (Below w.heap.size w w3) := below_next HAB.out hb3; have HA3 : Hid (EvAt w3 w.heap.size zeroE) := HA.out.after hb3; clear hb3)
    | ((with_reducible refine guard_store 24 ?_); refine wpList_store_ev (e := zeroE) (e2 := zeroE) rfl _ _ rfl HA3.out rfl rfl ?_; intro x5 z1 z2 z3 z4))
  exact bodyPost_ret (results_ev rfl _ _ _ _ _ rfl rfl z1) rfl ⟨rfl, z2 _ _ HB3.out (Nat.le_refl _)⟩
theorem tk_ne_q {w1 x : World} {base q b : Nat} {L : List (Fld × Value)} {ts : List (Int × Bool)} (h : Tk w1 x base q b L ts) {k : Nat} {e : Ev} (he : EvAt x k e) : k ≠ q := by
  intro hh
  have h1 := h.rd.blk
  unfold EvAt at he
  rw [← hh, he] at h1
  cases h1
theorem tk_ne_b {w1 x : World} {base q b : Nat} {L : List (Fld × Value)} {ts : List (Int × Bool)} (h : Tk w1 x base q b L ts) {k : Nat} {e : Ev} (he : EvAt x k e) : k ≠ b := by
  intro hh
  obtain ⟨n, D, hm, hr⟩ := h.rd.map
  obtain ⟨es, c, hbm⟩ := map_blk hm
  unfold EvAt at he
  rw [← hh, he] at hbm
  cases hbm
theorem tk_start {w3 : World} {base q b : Nat} {L : List (Fld × Value)} (h : RdAt w3 base q b L 0) : Tk w3 w3 base q b L [] := ⟨h, Kept.refl _ _ _⟩
set_option maxRecDepth 20000 in
set_option maxHeartbeats 2000000 in
theorem sd_ok (v : Int) (T ft fq : Nat) (V V1 V2 : Value) (ev : List Fld → Ev) (Q : List Fld → Int) (tg : List (Int × Bool)) (l : List Nat) (a : Option Addr) (n cap : Nat) (w : World) (hn : l.length = n) (hb : Bytes w a l) (hcap : n ≤ cap) (hm : n ≤ maxLen) (hv1 : 1 ≤ v) (hv5 : v ≤ 5) (hver : verV v = .iface T V)
    (hmt : ∀ w, (method 244 T V "daybook/schema.take").run Try.prog w = .ok (ft, V1) w) (hmq : ∀ w, (method 244 T V "daybook/schema.takeQty").run Try.prog w = .ok (fq, V2) w) (hct : ∀ (a : Array Value) (w : World), (callFunc ft a).run Try.prog w = .ok (.enter ft a) w) (hcq : ∀ (a : Array Value) (w : World), (callFunc fq a).run Try.prog w = .ok (.enter fq a) w)
    (htake : ∀ (w1 w2 : World) (base q b : Nat) (L : List (Fld × Value)), Tk w1 w2 base q b L [] → Calls Try.prog ft #[V1, .pointer (some ⟨q, 0, none⟩)] w2 fun r w3 => r = .returned (.agg (evA (ev (L.map Prod.fst)))) ∧ Tk w1 w3 base q b L tg ∧ Kept q b w2 w3)
    (hqty : ∀ (w1 w2 : World) (base q b : Nat) (L : List (Fld × Value)), Tk w1 w2 base q b L tg → (∀ f ∈ L.map Prod.fst, FRight f) → Calls Try.prog fq #[V2, .pointer (some ⟨q, 0, none⟩)] w2 fun r w3 => r = .returned (.int .i64 (Q (L.map Prod.fst))) ∧ Tk w1 w3 base q b L (tg ++ [(4, false)]) ∧ Kept q b w2 w3) (he : (recs l).2.2 = 0) :
    Calls Try.prog 17 #[.int .i64 v, .slice a n cap] w fun r w' => r = .returned (.tuple #[.agg (evA (sdR v ev Q (tg ++ [(4, false)]) l).1), .int .i64 (sdR v ev Q (tg ++ [(4, false)]) l).2]) ∧ Below w.heap.size w w' := by
  have hl : ∀ x ∈ l, x < 256 := by
    intro x hx
    obtain ⟨i, hi, rfl⟩ := List.mem_iff_getElem.1 hx
    have := hb.1 i
    simpa [List.getD_eq_getElem?_getD, hi] using this
  have HFR : Hid (∀ f ∈ (recs l).1, FRight f) := (recs_ok l hl he).2.2.1
  have HV : Hid (1 ≤ v ∧ v ≤ 5) := ⟨hv1, hv5⟩
  have HVR : Hid (_) := hver
  have HN : Hid (_) := hn
  have HE : Hid (_) := he
  have HTK : Hid (_) := htake
  have HQT : Hid (_) := hqty
  have HA : Hid (EvAt (w.alloc (.cells (evA zeroE) 24)) w.heap.size zeroE) := evAt_new w zeroE
  have hAB : Below w.heap.size w (w.alloc (.cells (evA zeroE) 24)) := (Below.refl _ _).alloc (Nat.le_refl _) _
  have HAB : Hid (Below w.heap.size w (w.alloc (.cells (evA zeroE) 24))) := hAB
  have HBY : Hid (Bytes (w.alloc (.cells (evA zeroE) 24)) a l) := hb.keep hAB
  obtain ⟨er, hER⟩ : ∃ er, errR (tkF (recs l).1 (tg ++ [(4, false)])) (tkE (recs l).1 (tg ++ [(4, false)])) = er := ⟨_, rfl⟩
  obtain ⟨E1, hE1⟩ : ∃ E1, ev (recs l).1 = E1 := ⟨_, rfl⟩
  obtain ⟨QQ, hQQ⟩ : ∃ QQ, Q (recs l).1 = QQ := ⟨_, rfl⟩
  obtain ⟨cc, hCC⟩ : ∃ cc, chk v { E1 with qty := QQ } = cc := ⟨_, rfl⟩
  have HSD : Hid (sdR v ev Q (tg ++ [(4, false)]) l = if er ≠ 0 then (zeroE, (er : Int)) else if cc ≠ 0 then (zeroE, cc) else ({ E1 with qty := QQ }, 0)) := by
    show _ = _
    unfold sdR
    rw [if_neg (by rw [he]; simp), hER, hE1, hQQ, hCC]
  have HER : Hid (_) := hER
  have HE1 : Hid (_) := hE1
  have HQQ : Hid (_) := hQQ
  have HCC : Hid (_) := hCC
  have HLT : Hid (w.heap.size < (w.alloc (.cells (evA zeroE) 24)).heap.size) := by show _ < _; simp
  clear hn hb hAB hv1 hv5 hver he hER hE1 hQQ hCC htake hqty hl
  have T1 : Hid True := trivial
  by_cases he0 : er = 0
  · by_cases hc0 : cc = 0
    · subst he0
      subst hc0
      have HR : Hid (sdR v ev Q (tg ++ [(4, false)]) l = ({ E1 with qty := QQ }, 0)) := by show _ = _; rw [HSD.out]; rfl
      clear HSD
      go_enter Try.func17, Try.ntmps17
      go_wp2_with (first
        | (go_at_call 22; refine (find_yes v _ HV.out.1 HV.out.2).mono ?_; rw [HVR.out]; rintro _ w2 ⟨rfl, rfl⟩)
        | (go_at_call 37; refine (newr_ok l a n cap _ HN.out HBY.out hcap hm HE.out).mono ?_; rintro r w3 ⟨hb3, q, b, L, rfl, hL, hR, hq, hbb⟩; have hqx : w.heap.size < q := Nat.lt_of_lt_of_le HLT.out hq; have hbx : w.heap.size < b := Nat.lt_of_lt_of_le HLT.out hbb; have hd : Dv w w3 w3 _ q b L [] := ⟨tk_start hR, HA.out.after hb3, below_next HAB.out hb3, hqx, hbx, Nat.lt_of_lt_of_le HLT.out hb3.size⟩; have HD : Hid (_) := hd; have HL : Hid (_) := hL; clear hb3 hL hR hq hbb hd hqx hbx)
        | ((with_reducible refine (HTK.out w3 _ _ q b L (Dv.tk HD.out)).mono ?_); rw [HL.out, HE1.out]; rintro r x1 ⟨rfl, h1, h2⟩; have hd := Dv.step HD.out h1 h2; have HX1 : Hid (w3.heap.size ≤ x1.heap.size) := h2.size; clear HD h1 h2; have hd2 := hd.keep ((Below.refl x1.heap.size x1).alloc (Nat.le_refl _) (.cells (evA zeroE) 24)); have HD : Hid (_) := hd2; clear hd hd2)
        | ((with_reducible refine guard_store 24 ?_); clear T1; refine wpList_store_ev (e := zeroE) (e2 := E1) rfl _ _ rfl (evAt_new x1 zeroE) rfl rfl ?_; intro x2 z1 z2 z3 z4; have hd := Dv.poke HD.out (evAt_new x1 zeroE) HX1.out (os_of z2) z3 z4; clear HD z2 z3 z4; have HD : Hid (_) := hd; have HEV : Hid (EvAt x2 x1.heap.size E1) := z1; clear hd z1)
        | ((with_reducible refine (HQT.out w3 _ _ q b L (Dv.tk HD.out) (by rw [HL.out]; exact HFR.out)).mono ?_); rw [HL.out, HQQ.out]; rintro r x3 ⟨rfl, h1, h2⟩; have hd := Dv.step HD.out h1 h2; have he3 : EvAt x3 x1.heap.size E1 := HEV.out.kept h2 (tk_ne_q HD.out.tk HEV.out) (tk_ne_b HD.out.tk HEV.out); have f0 := he3.froz 3; have f1 := he3.cells.2.2.2.1; have hp := hd.poke (y := x3.setCell ⟨x1.heap.size, 3, none⟩ (.int .i64 QQ)) he3 HX1.out ⟨rfl, rfl, rfl⟩ (fun jj hj => heap_setCell_other x3 ⟨x1.heap.size, 3, none⟩ jj _ hj) (by simp); have hes : EvAt (x3.setCell ⟨x1.heap.size, 3, none⟩ (.int .i64 QQ)) x1.heap.size { E1 with qty := QQ } := he3.set _ rfl; clear HD HEV h1 h2 hd he3; have HD : Hid (_) := hp; have HEV : Hid (_) := hes; clear hp hes)
        | (go_at_call 38; refine (rerr_any _ _ q b _ _ (Dv.tk HD.out).rd).mono ?_; rw [tkF_of, HL.out, HER.out]; rintro r x4 ⟨rfl, rfl⟩)
        | ((with_reducible refine guard_load 24 ?_); refine wpList_load_ev (e := { E1 with qty := QQ }) rfl _ rfl HEV.out rfl ?_)
        | (go_at_call 10; refine (check_ev v { E1 with qty := QQ } _).mono ?_; rw [HCC.out]; rintro r x6 ⟨rfl, hb6⟩; have hd := Dv.keep HD.out hb6; have he6 : EvAt x6 x1.heap.size { E1 with qty := QQ } := EvAt.after HEV.out hb6; clear HD HEV hb6; have HD : Hid (_) := hd; have HEV : Hid (_) := he6; clear hd he6)
        | ((with_reducible refine guard_store 24 ?_); refine wpList_store_ev (e := zeroE) (e2 := { E1 with qty := QQ }) rfl _ _ rfl (Dv.res HD.out) rfl rfl ?_; intro x5 z1 z2 z3 z4))
      rw [HR.out]
      exact bodyPost_ret (results_ev rfl _ _ _ _ _ rfl rfl z1) rfl ⟨rfl, z2 _ _ HD.out.bel (Nat.le_refl _)⟩
    · subst he0
      have HR : Hid (sdR v ev Q (tg ++ [(4, false)]) l = (zeroE, cc)) := by show _ = _; rw [HSD.out, if_neg (by simp), if_pos hc0]
      have heb : (cc != 0) = true := by simpa using hc0
      clear HSD
      go_enter Try.func17, Try.ntmps17
      go_wp2_with (first
        | (go_at_call 22; refine (find_yes v _ HV.out.1 HV.out.2).mono ?_; rw [HVR.out]; rintro _ w2 ⟨rfl, rfl⟩)
        | (go_at_call 37; refine (newr_ok l a n cap _ HN.out HBY.out hcap hm HE.out).mono ?_; rintro r w3 ⟨hb3, q, b, L, rfl, hL, hR, hq, hbb⟩; have hqx : w.heap.size < q := Nat.lt_of_lt_of_le HLT.out hq; have hbx : w.heap.size < b := Nat.lt_of_lt_of_le HLT.out hbb; have hd : Dv w w3 w3 _ q b L [] := ⟨tk_start hR, HA.out.after hb3, below_next HAB.out hb3, hqx, hbx, Nat.lt_of_lt_of_le HLT.out hb3.size⟩; have HD : Hid (_) := hd; have HL : Hid (_) := hL; clear hb3 hL hR hq hbb hd hqx hbx)
        | ((with_reducible refine (HTK.out w3 _ _ q b L (Dv.tk HD.out)).mono ?_); rw [HL.out, HE1.out]; rintro r x1 ⟨rfl, h1, h2⟩; have hd := Dv.step HD.out h1 h2; have HX1 : Hid (w3.heap.size ≤ x1.heap.size) := h2.size; clear HD h1 h2; have hd2 := hd.keep ((Below.refl x1.heap.size x1).alloc (Nat.le_refl _) (.cells (evA zeroE) 24)); have HD : Hid (_) := hd2; clear hd hd2)
        | ((with_reducible refine guard_store 24 ?_); clear T1; refine wpList_store_ev (e := zeroE) (e2 := E1) rfl _ _ rfl (evAt_new x1 zeroE) rfl rfl ?_; intro x2 z1 z2 z3 z4; have hd := Dv.poke HD.out (evAt_new x1 zeroE) HX1.out (os_of z2) z3 z4; clear HD z2 z3 z4; have HD : Hid (_) := hd; have HEV : Hid (EvAt x2 x1.heap.size E1) := z1; clear hd z1)
        | ((with_reducible refine (HQT.out w3 _ _ q b L (Dv.tk HD.out) (by rw [HL.out]; exact HFR.out)).mono ?_); rw [HL.out, HQQ.out]; rintro r x3 ⟨rfl, h1, h2⟩; have hd := Dv.step HD.out h1 h2; have he3 : EvAt x3 x1.heap.size E1 := HEV.out.kept h2 (tk_ne_q HD.out.tk HEV.out) (tk_ne_b HD.out.tk HEV.out); have f0 := he3.froz 3; have f1 := he3.cells.2.2.2.1; have hp := hd.poke (y := x3.setCell ⟨x1.heap.size, 3, none⟩ (.int .i64 QQ)) he3 HX1.out ⟨rfl, rfl, rfl⟩ (fun jj hj => heap_setCell_other x3 ⟨x1.heap.size, 3, none⟩ jj _ hj) (by simp); have hes : EvAt (x3.setCell ⟨x1.heap.size, 3, none⟩ (.int .i64 QQ)) x1.heap.size { E1 with qty := QQ } := he3.set _ rfl; clear HD HEV h1 h2 hd he3; have HD : Hid (_) := hp; have HEV : Hid (_) := hes; clear hp hes)
        | (go_at_call 38; refine (rerr_any _ _ q b _ _ (Dv.tk HD.out).rd).mono ?_; rw [tkF_of, HL.out, HER.out]; rintro r x4 ⟨rfl, rfl⟩)
        | ((with_reducible refine guard_load 24 ?_); refine wpList_load_ev (e := { E1 with qty := QQ }) rfl _ rfl HEV.out rfl ?_)
        | (go_at_call 10; refine (check_ev v { E1 with qty := QQ } _).mono ?_; rw [HCC.out]; rintro r x6 ⟨rfl, hb6⟩; have hd := Dv.keep HD.out hb6; have he6 : EvAt x6 x1.heap.size { E1 with qty := QQ } := EvAt.after HEV.out hb6; clear HD HEV hb6; have HD : Hid (_) := hd; have HEV : Hid (_) := he6; clear hd he6)
        | ((with_reducible refine guard_store 24 ?_); refine wpList_store_ev (e := zeroE) (e2 := zeroE) rfl _ _ rfl (Dv.res HD.out) rfl rfl ?_; intro x5 z1 z2 z3 z4))
      rw [HR.out]
      exact bodyPost_ret (results_ev rfl _ _ _ _ _ rfl rfl z1) rfl ⟨rfl, z2 _ _ HD.out.bel (Nat.le_refl _)⟩
  · have HR : Hid (sdR v ev Q (tg ++ [(4, false)]) l = (zeroE, (er : Int))) := by show _ = _; rw [HSD.out, if_pos he0]
    have heb : ((er : Int) != 0) = true := by simp; omega
    have heb2 : ¬ (er : Int) = 0 := by omega
    clear he0 HSD
    go_enter Try.func17, Try.ntmps17
    go_wp2_with (first
      | (go_at_call 22; refine (find_yes v _ HV.out.1 HV.out.2).mono ?_; rw [HVR.out]; rintro _ w2 ⟨rfl, rfl⟩)
      | (go_at_call 37; refine (newr_ok l a n cap _ HN.out HBY.out hcap hm HE.out).mono ?_; rintro r w3 ⟨hb3, q, b, L, rfl, hL, hR, hq, hbb⟩; have hqx : w.heap.size < q := Nat.lt_of_lt_of_le HLT.out hq; have hbx : w.heap.size < b := Nat.lt_of_lt_of_le HLT.out hbb; have hd : Dv w w3 w3 _ q b L [] := ⟨tk_start hR, HA.out.after hb3, below_next HAB.out hb3, hqx, hbx, Nat.lt_of_lt_of_le HLT.out hb3.size⟩; have HD : Hid (_) := hd; have HL : Hid (_) := hL; clear hb3 hL hR hq hbb hd hqx hbx)
      | ((with_reducible refine (HTK.out w3 _ _ q b L (Dv.tk HD.out)).mono ?_); rw [HL.out, HE1.out]; rintro r x1 ⟨rfl, h1, h2⟩; have hd := Dv.step HD.out h1 h2; have HX1 : Hid (w3.heap.size ≤ x1.heap.size) := h2.size; clear HD h1 h2; have hd2 := hd.keep ((Below.refl x1.heap.size x1).alloc (Nat.le_refl _) (.cells (evA zeroE) 24)); have HD : Hid (_) := hd2; clear hd hd2)
      | ((with_reducible refine guard_store 24 ?_); clear T1; refine wpList_store_ev (e := zeroE) (e2 := E1) rfl _ _ rfl (evAt_new x1 zeroE) rfl rfl ?_; intro x2 z1 z2 z3 z4; have hd := Dv.poke HD.out (evAt_new x1 zeroE) HX1.out (os_of z2) z3 z4; clear HD z2 z3 z4; have HD : Hid (_) := hd; have HEV : Hid (EvAt x2 x1.heap.size E1) := z1; clear hd z1)
      | ((with_reducible refine (HQT.out w3 _ _ q b L (Dv.tk HD.out) (by rw [HL.out]; exact HFR.out)).mono ?_); rw [HL.out, HQQ.out]; rintro r x3 ⟨rfl, h1, h2⟩; have hd := Dv.step HD.out h1 h2; have he3 : EvAt x3 x1.heap.size E1 := HEV.out.kept h2 (tk_ne_q HD.out.tk HEV.out) (tk_ne_b HD.out.tk HEV.out); have f0 := he3.froz 3; have f1 := he3.cells.2.2.2.1; have hp := hd.poke (y := x3.setCell ⟨x1.heap.size, 3, none⟩ (.int .i64 QQ)) he3 HX1.out ⟨rfl, rfl, rfl⟩ (fun jj hj => heap_setCell_other x3 ⟨x1.heap.size, 3, none⟩ jj _ hj) (by simp); have hes : EvAt (x3.setCell ⟨x1.heap.size, 3, none⟩ (.int .i64 QQ)) x1.heap.size { E1 with qty := QQ } := he3.set _ rfl; clear HD HEV h1 h2 hd he3; have HD : Hid (_) := hp; have HEV : Hid (_) := hes; clear hp hes)
      | (go_at_call 38; refine (rerr_any _ _ q b _ _ (Dv.tk HD.out).rd).mono ?_; rw [tkF_of, HL.out, HER.out]; rintro r x4 ⟨rfl, rfl⟩)
      | ((with_reducible refine guard_store 24 ?_); refine wpList_store_ev (e := zeroE) (e2 := zeroE) rfl _ _ rfl (Dv.res HD.out) rfl rfl ?_; intro x5 z1 z2 z3 z4))
    rw [HR.out]
    exact bodyPost_ret (results_ev rfl _ _ _ _ _ rfl rfl z1) rfl ⟨rfl, z2 _ _ HD.out.bel (Nat.le_refl _)⟩
end Go.Proofs.Ytfhcbdmmckjmaaa
namespace Go.Proofs.Ytfhcbdmmckjmaaa
open Go.ChangeShapes Go.WideShapes Go.ChangeAt Go.RowKit
set_option linter.unusedVariables false
theorem m_take1 (w : World) : (method 244 85 (.agg #[.int .i64 0, .int .i64 0, .int .i64 0, .int .i64 0, .int .i64 0]) "daybook/schema.take").run Try.prog w = .ok (87, .agg #[.int .i64 0, .int .i64 0, .int .i64 0, .int .i64 0, .int .i64 0]) w := by kernel_rfl
theorem cf_take1 (a : Array Value) (w : World) : (callFunc 87 a).run Try.prog w = .ok (.enter 87 a) w := by kernel_rfl
theorem m_takeq1 (w : World) : (method 244 85 (.agg #[.int .i64 0, .int .i64 0, .int .i64 0, .int .i64 0, .int .i64 0]) "daybook/schema.takeQty").run Try.prog w = .ok (88, .agg #[.int .i64 0, .int .i64 0, .int .i64 0, .int .i64 0, .int .i64 0]) w := by kernel_rfl
theorem m_take2 (w : World) : (method 244 87 (.agg #[.int .i64 0, .int .i64 0, .int .i64 0, .int .i64 0, .int .i64 0, .int .i64 0]) "daybook/schema.take").run Try.prog w = .ok (95, .agg #[.int .i64 0, .int .i64 0, .int .i64 0, .int .i64 0, .int .i64 0, .int .i64 0]) w := by kernel_rfl
theorem cf_take2 (a : Array Value) (w : World) : (callFunc 95 a).run Try.prog w = .ok (.enter 95 a) w := by kernel_rfl
theorem m_takeq2 (w : World) : (method 244 87 (.agg #[.int .i64 0, .int .i64 0, .int .i64 0, .int .i64 0, .int .i64 0, .int .i64 0]) "daybook/schema.takeQty").run Try.prog w = .ok (88, .agg #[.int .i64 0, .int .i64 0, .int .i64 0, .int .i64 0, .int .i64 0]) w := by kernel_rfl
theorem m_take3 (w : World) : (method 244 89 (.agg #[.int .i64 0, .int .i64 0, .int .i64 0, .int .i64 0, .int .i64 0, .int .i64 0, .int .i64 0]) "daybook/schema.take").run Try.prog w = .ok (99, .agg #[.int .i64 0, .int .i64 0, .int .i64 0, .int .i64 0, .int .i64 0, .int .i64 0, .int .i64 0]) w := by kernel_rfl
theorem cf_take3 (a : Array Value) (w : World) : (callFunc 99 a).run Try.prog w = .ok (.enter 99 a) w := by kernel_rfl
theorem m_takeq3 (w : World) : (method 244 89 (.agg #[.int .i64 0, .int .i64 0, .int .i64 0, .int .i64 0, .int .i64 0, .int .i64 0, .int .i64 0]) "daybook/schema.takeQty").run Try.prog w = .ok (100, .agg #[.int .i64 0, .int .i64 0, .int .i64 0, .int .i64 0, .int .i64 0, .int .i64 0, .int .i64 0]) w := by kernel_rfl
theorem m_take4 (w : World) : (method 244 91 (.agg #[.int .i64 0, .int .i64 0, .int .i64 0, .int .i64 0, .int .i64 0, .int .i64 0, .int .i64 0, .string ⟨#[]⟩]) "daybook/schema.take").run Try.prog w = .ok (102, .agg #[.int .i64 0, .int .i64 0, .int .i64 0, .int .i64 0, .int .i64 0, .int .i64 0, .int .i64 0, .string ⟨#[]⟩]) w := by kernel_rfl
theorem cf_take4 (a : Array Value) (w : World) : (callFunc 102 a).run Try.prog w = .ok (.enter 102 a) w := by kernel_rfl
theorem m_takeq4 (w : World) : (method 244 91 (.agg #[.int .i64 0, .int .i64 0, .int .i64 0, .int .i64 0, .int .i64 0, .int .i64 0, .int .i64 0, .string ⟨#[]⟩]) "daybook/schema.takeQty").run Try.prog w = .ok (100, .agg #[.int .i64 0, .int .i64 0, .int .i64 0, .int .i64 0, .int .i64 0, .int .i64 0, .int .i64 0]) w := by kernel_rfl
theorem m_take5 (w : World) : (method 244 93 (.agg #[.int .i64 0, .int .i64 0, .int .i64 0, .int .i64 0, .int .i64 0, .int .i64 0, .int .i64 0, .string ⟨#[]⟩, .int .i64 0, .string ⟨#[]⟩]) "daybook/schema.take").run Try.prog w = .ok (105, .agg #[.int .i64 0, .int .i64 0, .int .i64 0, .int .i64 0, .int .i64 0, .int .i64 0, .int .i64 0, .string ⟨#[]⟩, .int .i64 0, .string ⟨#[]⟩]) w := by kernel_rfl
theorem cf_take5 (a : Array Value) (w : World) : (callFunc 105 a).run Try.prog w = .ok (.enter 105 a) w := by kernel_rfl
theorem m_takeq5 (w : World) : (method 244 93 (.agg #[.int .i64 0, .int .i64 0, .int .i64 0, .int .i64 0, .int .i64 0, .int .i64 0, .int .i64 0, .string ⟨#[]⟩, .int .i64 0, .string ⟨#[]⟩]) "daybook/schema.takeQty").run Try.prog w = .ok (100, .agg #[.int .i64 0, .int .i64 0, .int .i64 0, .int .i64 0, .int .i64 0, .int .i64 0, .int .i64 0]) w := by kernel_rfl
theorem cf_takeq1 (a : Array Value) (w : World) : (callFunc 88 a).run Try.prog w = .ok (.enter 88 a) w := by kernel_rfl
theorem cf_takeq3 (a : Array Value) (w : World) : (callFunc 100 a).run Try.prog w = .ok (.enter 100 a) w := by kernel_rfl
/-- what a version takes -/
def evV (v : Int) (fs : List Fld) : Ev := if v ≤ 1 then ev1 fs else if v ≤ 2 then ev2 fs else if v ≤ 3 then ev3 fs else if v ≤ 4 then ev4 fs else ev5 fs
def qtyV (v : Int) (fs : List Fld) : Int := if v ≤ 2 then zag (numF fs 4 : Int) else capN (numF fs 4)
def tgV (v : Int) : List (Int × Bool) := (if v ≤ 1 then tg1 else if v ≤ 2 then tg2 else if v ≤ 3 then tg3 else if v ≤ 4 then tg4 else tg5) ++ [(4, false)]
/-- what schema.Decode answers -/
def sdec (v : Int) (l : List Nat) : Ev × Int := if v < 1 ∨ 5 < v then (zeroE, 30) else sdR v (evV v) (qtyV v) (tgV v) l
theorem sdecode_any (v : Int) (l : List Nat) (a : Option Addr) (n cap : Nat) (w : World) (hn : l.length = n) (hb : Bytes w a l) (hcap : n ≤ cap) (hm : n ≤ maxLen) :
    Calls Try.prog 17 #[.int .i64 v, .slice a n cap] w fun r w' => r = .returned (.tuple #[.agg (evA (sdec v l).1), .int .i64 (sdec v l).2]) ∧ Below w.heap.size w w' := by
  by_cases hv : v < 1 ∨ 5 < v
  · rw [show sdec v l = (zeroE, 30) from if_pos hv]
    exact sd_no v a n cap w hv
  · rw [show sdec v l = sdR v (evV v) (qtyV v) (tgV v) l from if_neg hv]
    have h5 : v = 1 ∨ v = 2 ∨ v = 3 ∨ v = 4 ∨ v = 5 := by omega
    by_cases he : (recs l).2.2 = 0
    · rcases h5 with rfl | rfl | rfl | rfl | rfl
      · exact sd_ok 1 _ _ _ _ _ _ (evV 1) (qtyV 1) tg1 l a n cap w hn hb hcap hm (by decide) (by decide) rfl m_take1 m_takeq1 cf_take1 cf_takeq1 (fun w1 w2 base q b L h => take1 _ w1 w2 base q b L h) (fun w1 w2 base q b L h hf => takeq1 _ w1 w2 base q b L _ h (by unfold tg1; simp) hf) he
      · exact sd_ok 2 _ _ _ _ _ _ (evV 2) (qtyV 2) tg2 l a n cap w hn hb hcap hm (by decide) (by decide) rfl m_take2 m_takeq2 cf_take2 cf_takeq1 (fun w1 w2 base q b L h => take2 w1 w2 base q b L h) (fun w1 w2 base q b L h hf => takeq1 _ w1 w2 base q b L _ h (by unfold tg2; simp) hf) he
      · exact sd_ok 3 _ _ _ _ _ _ (evV 3) (qtyV 3) tg3 l a n cap w hn hb hcap hm (by decide) (by decide) rfl m_take3 m_takeq3 cf_take3 cf_takeq3 (fun w1 w2 base q b L h => take3 w1 w2 base q b L h) (fun w1 w2 base q b L h hf => takeq3 _ w1 w2 base q b L _ h (by unfold tg3; simp)) he
      · exact sd_ok 4 _ _ _ _ _ _ (evV 4) (qtyV 4) tg4 l a n cap w hn hb hcap hm (by decide) (by decide) rfl m_take4 m_takeq4 cf_take4 cf_takeq3 (fun w1 w2 base q b L h => take4 w1 w2 base q b L h) (fun w1 w2 base q b L h hf => takeq3 _ w1 w2 base q b L _ h (by unfold tg4; simp)) he
      · exact sd_ok 5 _ _ _ _ _ _ (evV 5) (qtyV 5) tg5 l a n cap w hn hb hcap hm (by decide) (by decide) rfl m_take5 m_takeq5 cf_take5 cf_takeq3 (fun w1 w2 base q b L h => take5 w1 w2 base q b L h) (fun w1 w2 base q b L h hf => takeq3 _ w1 w2 base q b L _ h (by unfold tg5; simp)) he
    · have e1 : sdR v (evV v) (qtyV v) (tgV v) l = (zeroE, ((recs l).2.2 : Int)) := if_pos he
      rw [e1]
      obtain ⟨T, V, hTV⟩ : ∃ T V, verV v = .iface T V := by rcases h5 with rfl | rfl | rfl | rfl | rfl <;> exact ⟨_, _, rfl⟩
      exact sd_bad v T V l a n cap w hn hb hcap hm (by omega) (by omega) hTV he
end Go.Proofs.Ytfhcbdmmckjmaaa
