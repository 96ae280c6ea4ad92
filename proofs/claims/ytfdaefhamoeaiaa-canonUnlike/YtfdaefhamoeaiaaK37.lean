/- Own texts, joined: Sd5, Sd6, Cn4. -/
import Derived.Test.YtfdaefhamoeaiaaK36
import Derived.Test.YtfdaefhamoeaiaaK11
import Derived.Test.YtfdaefhamoeaiaaK30
import Derived.Test.YtfdaefhamoeaiaaK31
import Derived.Deep.RegionHeld3
import Derived.Test.YtfdaefhamoeaiaaK35
namespace Go.Proofs.Ytfdaefhamoeaiaa
open Go.ChangeShapes Go.WideShapes Go.ChangeAt Go.RowKit
set_option linter.unusedVariables false
/-- a number as an int -/
def capN (u : Nat) : Int := if u ≤ 4611686018427387904 then (u : Int) else 4611686018427387904
/-- what is left behind takes, and the error -/
def tkL (L : List (Fld × Value)) (ts : List (Int × Bool)) : List (Fld × Value) := ts.foldl (fun L x => delT L x.1) L
def tkF (fs : List Fld) (ts : List (Int × Bool)) : List Fld := ts.foldl (fun L x => delF L x.1) fs
def tkE (fs : List Fld) (ts : List (Int × Bool)) : Nat := (ts.foldl (fun (S : List Fld × Nat) x => (delF S.1 x.1, errF S.1 S.2 x.1 x.2)) (fs, 0)).2
theorem tkF_of (ts : List (Int × Bool)) : ∀ (L : List (Fld × Value)), (tkL L ts).map Prod.fst = tkF (L.map Prod.fst) ts := by
  induction ts with
  | nil => intro L; rfl
  | cons x r ih => intro L; show (tkL (delT L x.1) r).map Prod.fst = tkF (delF (L.map Prod.fst) x.1) r; rw [ih, delF_of]
theorem tk_pair (ts : List (Int × Bool)) : ∀ (fs : List Fld) (e : Nat), (ts.foldl (fun (S : List Fld × Nat) x => (delF S.1 x.1, errF S.1 S.2 x.1 x.2)) (fs, e)).1 = tkF fs ts := by
  induction ts with
  | nil => intro fs e; rfl
  | cons x r ih => intro fs e; exact ih _ _
theorem tkE_snoc (fs : List Fld) (ts : List (Int × Bool)) (x : Int × Bool) : tkE fs (ts ++ [x]) = errF (tkF fs ts) (tkE fs ts) x.1 x.2 := by
  unfold tkE
  rw [List.foldl_append]
  show errF _ _ _ _ = _
  rw [tk_pair]
theorem tkL_snoc (L : List (Fld × Value)) (ts : List (Int × Bool)) (x : Int × Bool) : tkL L (ts ++ [x]) = delT (tkL L ts) x.1 := by
  unfold tkL; rw [List.foldl_append]; rfl
theorem getF_del_other (fs : List Fld) {t s : Int} (h : s ≠ t) : getF (delF fs t) s = getF fs s := by
  unfold getF delF
  refine Go.Maps.find_filter_keep (fun p hp => ?_) fs
  simp at hp ⊢
  omega
theorem getF_tk (s : Int) : ∀ (ts : List (Int × Bool)) (fs : List Fld), (∀ x ∈ ts, x.1 ≠ s) → getF (tkF fs ts) s = getF fs s
  | [], fs, _ => rfl
  | x :: r, fs, h => by
    show getF (tkF (delF fs x.1) r) s = _
    rw [getF_tk s r _ (fun y hy => h y (List.mem_cons_of_mem _ hy)), getF_del_other fs (h x (List.mem_cons_self ..)).symm]
theorem numF_tk {s : Int} {ts : List (Int × Bool)} {fs : List Fld} (h : ∀ x ∈ ts, x.1 ≠ s) : numF (tkF fs ts) s = numF fs s := by unfold numF; rw [getF_tk s ts fs h]
theorem txtF_tk {s : Int} {ts : List (Int × Bool)} {fs : List Fld} (h : ∀ x ∈ ts, x.1 ≠ s) : txtF (tkF fs ts) s = txtF fs s := by unfold txtF; rw [getF_tk s ts fs h]
/-- the reader behind the takes ts -/
structure Tk (w1 w2 : World) (base q b : Nat) (L : List (Fld × Value)) (ts : List (Int × Bool)) : Prop where
  rd : RdAt w2 base q b (tkL L ts) (tkE (L.map Prod.fst) ts)
  kep : Kept q b w1 w2
theorem Tk.keep {w1 w2 w3 : World} {base q b : Nat} {L : List (Fld × Value)} {ts : List (Int × Bool)} (h : Tk w1 w2 base q b L ts) (hb : Below w2.heap.size w2 w3) : Tk w1 w3 base q b L ts :=
  ⟨h.rd.keep hb, ⟨hb.os.trans h.kep.os, hb.tape.trans h.kep.tape, hb.output.trans h.kep.output, Nat.le_trans h.kep.size hb.size, fun k hk h1 h2 => (hb.block k (Nat.lt_of_lt_of_le hk h.kep.size)).trans (h.kep.block k hk h1 h2)⟩⟩
theorem Tk.step {w1 w2 w3 : World} {base q b : Nat} {L : List (Fld × Value)} {ts : List (Int × Bool)} {t : Int} {x : Bool} (h : Tk w1 w2 base q b L ts) (hp : RdPost w2 base q b (tkL L ts) (tkE (L.map Prod.fst) ts) t x w3) : Tk w1 w3 base q b L (ts ++ [(t, x)]) := by
  obtain ⟨h1, h2⟩ := hp
  rw [tkF_of] at h1
  refine ⟨?_, ⟨h2.os.trans h.kep.os, h2.tape.trans h.kep.tape, h2.output.trans h.kep.output, Nat.le_trans h.kep.size h2.size, fun k hk k1 k2 => (h2.block k (Nat.lt_of_lt_of_le hk h.kep.size) k1 k2).trans (h.kep.block k hk k1 k2)⟩⟩
  rw [tkL_snoc, tkE_snoc]
  exact h1
theorem text_tk (t : Int) (w1 w2 : World) (base q b : Nat) (L : List (Fld × Value)) (ts : List (Int × Bool)) (h : Tk w1 w2 base q b L ts) (hts : ∀ x ∈ ts, x.1 ≠ t) (ht : (Lit.int .i64 t).wf = true) :
    Calls Try.prog 44 #[.pointer (some ⟨q, 0, none⟩), .int .i64 t] w2 fun r w3 => ∃ v, r = .returned v ∧ Own w3 base v (txtF (L.map Prod.fst) t) ∧ Tk w1 w3 base q b L (ts ++ [(t, true)]) ∧ Kept q b w2 w3 := by
  refine (rtext_any t w2 base q b _ _ h.rd ht).mono ?_
  rw [tkF_of, txtF_tk hts]
  rintro r w3 ⟨v, rfl, ho, hp⟩
  exact ⟨v, rfl, ho, h.step hp, hp.2⟩
theorem EvAt.kept {w w' : World} {g1 g2 b : Nat} {e : Ev} (h : EvAt w b e) (hk : Kept g1 g2 w w') (h1 : b ≠ g1) (h2 : b ≠ g2) : EvAt w' b e := (hk.block b h.lt h1 h2).trans h
theorem results_ev1 {fn : Func} {p : Tmp} (h : fn.results = #[.cell p 89]) (tmps : Array Value) (w : World) (k : Nat) {e : Ev} (hp : tmps.getD p undef = .pointer (some ⟨k, 0, none⟩)) (hl : EvAt w k e) :
    (results fn tmps).run Try.prog w = .ok (.agg (evA e)) w := by
  simp only [Array.getD_eq_getD_getElem?] at hp
  simp [results, h, hp, asAddr, hl.loadVar]
theorem Tk.lts {w1 w2 : World} {base q b : Nat} {L : List (Fld × Value)} {ts : List (Int × Bool)} (h : Tk w1 w2 base q b L ts) : q < w2.heap.size ∧ b < w2.heap.size := by
  obtain ⟨n, D, hm, _⟩ := h.rd.map
  exact ⟨lt_of_heap h.rd.blk, hm.lt⟩
end Go.Proofs.Ytfdaefhamoeaiaa
namespace Go.Proofs.Ytfdaefhamoeaiaa
open Go.ChangeShapes Go.WideShapes Go.ChangeAt Go.RowKit
set_option linter.unusedVariables false
/-- what version 1 takes -/
def ev1 (fs : List Fld) : Ev := ⟨capN (numF fs 1), capN (numF fs 2), capN (numF fs 3), 0, capN (numF fs 5), 0, 0, ⟨#[]⟩, 0, ⟨#[]⟩⟩
def ev2 (fs : List Fld) : Ev := { ev1 fs with cur := capN (numF fs 6) }
def ev3 (fs : List Fld) : Ev := { ev2 fs with tax := capN (numF fs 7) }
def ev4 (fs : List Fld) : Ev := { ev3 fs with who := str8 (txtF fs 8) }
def ev5 (fs : List Fld) : Ev := { ev4 fs with stamp := capN (numF fs 9), note := str8 (txtF fs 10) }
def tg1 : List (Int × Bool) := [(1, false), (2, false), (3, false), (5, false)]
def tg2 : List (Int × Bool) := [(1, false), (2, false), (3, false), (5, false), (6, false)]
def tg3 : List (Int × Bool) := [(1, false), (2, false), (3, false), (5, false), (6, false), (7, false)]
def tg4 : List (Int × Bool) := [(1, false), (2, false), (3, false), (5, false), (6, false), (7, false), (8, true)]
def tg5 : List (Int × Bool) := [(1, false), (2, false), (3, false), (5, false), (6, false), (7, false), (8, true), (9, false), (10, true)]
theorem Kept.chain {x y : Nat} {a b c : World} (h : Kept x y a b) (k : Kept x y b c) : Kept x y a c :=
  ⟨k.os.trans h.os, k.tape.trans h.tape, k.output.trans h.output, Nat.le_trans h.size k.size, fun j hj h1 h2 => (k.block j (Nat.lt_of_lt_of_le hj h.size) h1 h2).trans (h.block j hj h1 h2)⟩
theorem Kept.of_bel {x y : Nat} {a b : World} (h : Below a.heap.size a b) : Kept x y a b := ⟨h.os, h.tape, h.output, h.size, fun k hk _ _ => h.block k hk⟩
/-- while an event is taken: the reader, the answer's block rb (nought), all else as it was -/
structure Tv (w1 w2 x : World) (base q b rb : Nat) (L : List (Fld × Value)) (ts : List (Int × Bool)) : Prop where
  tk : Tk w1 x base q b L ts
  res : EvAt x rb zeroE
  kep : Kept q b w2 x
  lts : q < w2.heap.size ∧ b < w2.heap.size ∧ w2.heap.size ≤ rb ∧ w1.heap.size ≤ w2.heap.size
theorem Tv.step {w1 w2 x y : World} {base q b rb : Nat} {L : List (Fld × Value)} {ts ts' : List (Int × Bool)} (h : Tv w1 w2 x base q b rb L ts) (ht : Tk w1 y base q b L ts') (hk : Kept q b x y) : Tv w1 w2 y base q b rb L ts' :=
  ⟨ht, h.res.kept hk (by have := h.lts; omega) (by have := h.lts; omega), h.kep.chain hk, h.lts⟩
theorem Tv.keep {w1 w2 x y : World} {base q b rb : Nat} {L : List (Fld × Value)} {ts : List (Int × Bool)} (h : Tv w1 w2 x base q b rb L ts) (hb : Below x.heap.size x y) : Tv w1 w2 y base q b rb L ts :=
  h.step (h.tk.keep hb) (Kept.of_bel hb)
theorem tv_of {w1 w2 : World} {base q b : Nat} {L : List (Fld × Value)} {ts : List (Int × Bool)} (h : Tk w1 w2 base q b L ts) (arr : Array Value) (T : TypeId) :
    ∃ W, (w2.alloc (.cells arr T)).alloc (.cells (evA zeroE) 89) = W ∧ Tv w1 w2 W base q b (w2.heap.size + 1) L ts ∧ W.heap.size = w2.heap.size + 2 ∧ (∀ i, W.cell? ⟨w2.heap.size, i, none⟩ = arr[i]?) := by
  have hB : Below w2.heap.size w2 ((w2.alloc (.cells arr T)).alloc (.cells (evA zeroE) 89)) := (((Below.refl _ _).alloc (Nat.le_refl _) _).alloc (by simp) _)
  refine ⟨_, rfl, ⟨h.keep hB, ?_, Kept.of_bel hB, h.lts.1, h.lts.2, by omega, h.kep.size⟩, by simp, fun i => ?_⟩
  · have := evAt_new (w2.alloc (.cells arr T)) zeroE
    simpa using this
  · have h1 : ((w2.alloc (.cells arr T)).alloc (.cells (evA zeroE) 89)).heap[w2.heap.size]? = some (.cells arr T) := (Below.heap_alloc _ _ _ (by simp)).trans (heap_alloc_new w2 _)
    rw [cell_of_row _ _ i _ _ _ h1]
/-- a store into an event of the call's own -/
theorem Tv.poke {w1 w2 x y : World} {base q b rb : Nat} {L : List (Fld × Value)} {ts : List (Int × Bool)} (h : Tv w1 w2 x base q b rb L ts) {k : Nat} {e : Ev} (he : EvAt x k e) (hk : w2.heap.size ≤ k) (ho : y.os = x.os ∧ y.tape = x.tape ∧ y.output = x.output) (hj : ∀ j, j ≠ k → y.heap[j]? = x.heap[j]?) (hs : y.heap.size = x.heap.size) : Tk w1 y base q b L ts ∧ Kept q b w2 y := by
  obtain ⟨l1, l2, l3, l4⟩ := h.lts
  obtain ⟨n, D, hm, hr⟩ := h.tk.rd.map
  have hle : w2.heap.size ≤ x.heap.size := h.kep.size
  refine ⟨⟨⟨(hj q (by omega)).trans h.tk.rd.blk, ⟨n, D, owns_same hm (hj b (by omega)), hr⟩, fun p hp => own_other (h.tk.rd.byt p hp) (x := k) (y := k) (fun c hc => ?_) (fun c hc => ?_) (fun j _ j2 _ => hj j j2)⟩, ⟨ho.1.trans h.tk.kep.os, ho.2.1.trans h.tk.kep.tape, ho.2.2.trans h.tk.kep.output, by rw [hs]; omega, fun j j1 j2 j3 => (hj j (by omega)).trans (h.tk.kep.block j j1 j2 j3)⟩⟩, ⟨ho.1.trans h.kep.os, ho.2.1.trans h.kep.tape, ho.2.2.trans h.kep.output, by rw [hs]; exact hle, fun j j1 j2 j3 => (hj j (by omega)).trans (h.kep.block j j1 j2 j3)⟩⟩
  · unfold EvAt at he; rw [he] at hc; cases hc
  · unfold EvAt at he; rw [he] at hc; cases hc
theorem Tv.pokes {w1 w2 x y : World} {base q b rb : Nat} {L : List (Fld × Value)} {ts : List (Int × Bool)} (h : Tv w1 w2 x base q b rb L ts) {k : Nat} {e : Ev} (he : EvAt x k e) (hk : w2.heap.size ≤ k) (hne : rb ≠ k) (ho : y.os = x.os ∧ y.tape = x.tape ∧ y.output = x.output) (hj : ∀ j, j ≠ k → y.heap[j]? = x.heap[j]?) (hs : y.heap.size = x.heap.size) : Tv w1 w2 y base q b rb L ts :=
  ⟨(h.poke he hk ho hj hs).1, (hj rb hne).trans h.res, (h.poke he hk ho hj hs).2, h.lts⟩
theorem own_poke {w : World} {base : Nat} {v : Value} {l : List Nat} {k : Nat} {e : Ev} (h : Own w base v l) (he : EvAt w k e) (j : Nat) (x : Value) : Own (w.setCell ⟨k, j, none⟩ x) base v l :=
  own_other h (x := k) (y := k) (fun c hc => by unfold EvAt at he; rw [he] at hc; cases hc) (fun c hc => by unfold EvAt at he; rw [he] at hc; cases hc) (fun i _ i2 _ => heap_setCell_other w ⟨k, j, none⟩ i _ i2)
/-- what a store's law tells of the rest -/
theorem os_of {x y : World} {k : Nat} (h : ∀ B a, Below B a x → B ≤ k → Below B a y) : y.os = x.os ∧ y.tape = x.tape ∧ y.output = x.output :=
  have h1 := h 0 x (Below.refl _ _) (Nat.zero_le _)
  ⟨h1.os, h1.tape, h1.output⟩
theorem EvAt.set {w : World} {k j : Nat} {e e2 : Ev} (h : EvAt w k e) (v : Value) (he : (evA e).setIfInBounds j v = evA e2) : EvAt (w.setCell ⟨k, j, none⟩ v) k e2 := by
  unfold EvAt at h ⊢
  rw [heap_setCell_same w k j _ _ _ h, he]
theorem EvAt.froz {w : World} {k : Nat} {e : Ev} (h : EvAt w k e) (j : Nat) : w.frozen? ⟨k, j, none⟩ = false := frozen_of_row _ _ j _ _ h
end Go.Proofs.Ytfdaefhamoeaiaa
namespace Go.Proofs.Ytfdaefhamoeaiaa
open Go.ChangeShapes Go.WideShapes Go.ChangeAt Go.RowKit
set_option linter.unusedVariables false
set_option maxRecDepth 20000 in
theorem ccapped_any (u : Nat) (w : World) : Calls Try.prog 60 #[.int .u64 (u : Int)] w fun r w' => r = .returned (.int .i64 (capN u)) ∧ w = w' := by
  by_cases h : u ≤ 4611686018427387904
  · have HC : Hid (capN u = (u : Int)) := if_pos h
    have hI : (u : Int) ≤ 4611686018427387904 := by omega
    clear h
    go_enter Try.func60, Try.ntmps60
    go_wp2
    go_ret
    exact ⟨by rw [HC.out]; rfl, rfl⟩
  · have HC : Hid (capN u = 4611686018427387904) := if_neg h
    have hI : ¬ (u : Int) ≤ 4611686018427387904 := by omega
    clear h
    go_enter Try.func60, Try.ntmps60
    go_wp2
    go_ret
    exact ⟨by rw [HC.out]; rfl, rfl⟩
set_option maxRecDepth 20000 in
theorem cnumber_any (t : Int) (w : World) (base q b : Nat) (L : List (Fld × Value)) (e : Nat) (h : RdAt w base q b L e) (ht : (Lit.int .i64 t).wf = true) :
    Calls Try.prog 43 #[.pointer (some ⟨q, 0, none⟩), .int .i64 t] w fun r w' => r = .returned (.int .i64 (capN (numF (L.map Prod.fst) t))) ∧ RdPost w base q b L e t false w' := by
  have HR : Hid (RdAt w base q b L e) := h
  obtain ⟨u, hu⟩ : ∃ u, numF (L.map Prod.fst) t = u := ⟨_, rfl⟩
  rw [hu]
  have HU : Hid (_) := hu
  clear h hu
  go_enter Try.func43, Try.ntmps43
  go_wp2_with (first
    | (go_at_call 61; refine (rnum_any t w base q b L e HR.out ht).mono ?_; rw [HU.out]; rintro r w1 ⟨rfl, hp⟩; have HP : Hid (RdPost w base q b L e t false w1) := hp; clear hp)
    | (go_at_call 60; refine (ccapped_any u w1).mono ?_; rintro r w2 ⟨rfl, rfl⟩))
  go_ret
  exact ⟨rfl, HP.out⟩
theorem cnumber_tk (t : Int) (w1 w2 : World) (base q b : Nat) (L : List (Fld × Value)) (ts : List (Int × Bool)) (h : Tk w1 w2 base q b L ts) (hts : ∀ x ∈ ts, x.1 ≠ t) (ht : (Lit.int .i64 t).wf = true) :
    Calls Try.prog 43 #[.pointer (some ⟨q, 0, none⟩), .int .i64 t] w2 fun r w3 => r = .returned (.int .i64 (capN (numF (L.map Prod.fst) t))) ∧ Tk w1 w3 base q b L (ts ++ [(t, false)]) ∧ Kept q b w2 w3 := by
  refine (cnumber_any t w2 base q b _ _ h.rd ht).mono ?_
  rw [tkF_of, numF_tk hts]
  rintro r w3 ⟨rfl, hp⟩
  exact ⟨rfl, h.step hp, hp.2⟩
/-- while a state is taken: the reader, the answer's block rb (nought), all else as it was -/
theorem StAt.kept {w w' : World} {g1 g2 b : Nat} {e : St} {v : Value} (h : StAt w b e v) (hk : Kept g1 g2 w w') (h1 : b ≠ g1) (h2 : b ≠ g2) : StAt w' b e v := (hk.block b h.lt h1 h2).trans h
structure Ts (w1 w2 x : World) (base q b rb : Nat) (L : List (Fld × Value)) (ts : List (Int × Bool)) : Prop where
  tk : Tk w1 x base q b L ts
  res : StAt x rb zeroS (.slice none 0 0)
  kep : Kept q b w2 x
  lts : q < w2.heap.size ∧ b < w2.heap.size ∧ w2.heap.size ≤ rb ∧ w1.heap.size ≤ w2.heap.size
theorem Ts.step {w1 w2 x y : World} {base q b rb : Nat} {L : List (Fld × Value)} {ts ts' : List (Int × Bool)} (h : Ts w1 w2 x base q b rb L ts) (ht : Tk w1 y base q b L ts') (hk : Kept q b x y) : Ts w1 w2 y base q b rb L ts' :=
  ⟨ht, h.res.kept hk (by have := h.lts; omega) (by have := h.lts; omega), h.kep.chain hk, h.lts⟩
theorem Ts.keep {w1 w2 x y : World} {base q b rb : Nat} {L : List (Fld × Value)} {ts : List (Int × Bool)} (h : Ts w1 w2 x base q b rb L ts) (hb : Below x.heap.size x y) : Ts w1 w2 y base q b rb L ts :=
  h.step (h.tk.keep hb) (Kept.of_bel hb)
theorem Ts.poke {w1 w2 x y : World} {base q b rb : Nat} {L : List (Fld × Value)} {ts : List (Int × Bool)} (h : Ts w1 w2 x base q b rb L ts) {k : Nat} {e : St} {ev : Value} (he : StAt x k e ev) (hk : w2.heap.size ≤ k) (ho : y.os = x.os ∧ y.tape = x.tape ∧ y.output = x.output) (hj : ∀ j, j ≠ k → y.heap[j]? = x.heap[j]?) (hs : y.heap.size = x.heap.size) : Tk w1 y base q b L ts ∧ Kept q b w2 y := by
  obtain ⟨l1, l2, l3, l4⟩ := h.lts
  obtain ⟨n, D, hm, hr⟩ := h.tk.rd.map
  have hle : w2.heap.size ≤ x.heap.size := h.kep.size
  refine ⟨⟨⟨(hj q (by omega)).trans h.tk.rd.blk, ⟨n, D, owns_same hm (hj b (by omega)), hr⟩, fun p hp => own_other (h.tk.rd.byt p hp) (x := k) (y := k) (fun c hc => ?_) (fun c hc => ?_) (fun j _ j2 _ => hj j j2)⟩, ⟨ho.1.trans h.tk.kep.os, ho.2.1.trans h.tk.kep.tape, ho.2.2.trans h.tk.kep.output, by rw [hs]; omega, fun j j1 j2 j3 => (hj j (by omega)).trans (h.tk.kep.block j j1 j2 j3)⟩⟩, ⟨ho.1.trans h.kep.os, ho.2.1.trans h.kep.tape, ho.2.2.trans h.kep.output, by rw [hs]; exact hle, fun j j1 j2 j3 => (hj j (by omega)).trans (h.kep.block j j1 j2 j3)⟩⟩
  · unfold StAt at he; rw [he] at hc; cases hc
  · unfold StAt at he; rw [he] at hc; cases hc
theorem results_st1 {fn : Func} {p : Tmp} (h : fn.results = #[.cell p 25]) (tmps : Array Value) (w : World) (k : Nat) {e : St} {v : Value} (hp : tmps.getD p undef = .pointer (some ⟨k, 0, none⟩)) (hl : StAt w k e v) :
    (results fn tmps).run Try.prog w = .ok (.agg (stA e v)) w := by
  simp only [Array.getD_eq_getD_getElem?] at hp
  simp [results, h, hp, asAddr, hl.loadVar]
theorem results_st2 {fn : Func} {p u : Tmp} (h : fn.results = #[.cell p 25, .tmp u]) (tmps : Array Value) (w : World) (b : Nat) {e : St} {v : Value} (x : Value) (hp : tmps.getD p undef = .pointer (some ⟨b, 0, none⟩)) (hx : tmps.getD u undef = x) (hl : StAt w b e v) :
    (results fn tmps).run Try.prog w = .ok (.tuple #[.agg (stA e v), x]) w := by
  rw [results_cell_tmp h, hp]
  simp only [asAddr, Sem.run_pure, Result.andThen_ok, hl.loadVar, hx]
/-- the state that the fields tell of, but for its lines -/
def stOf (fs : List Fld) : St := ⟨capN (numF fs 1), capN (numF fs 2), capN (numF fs 3), capN (numF fs 4), capN (numF fs 5), [], capN (numF fs 6), capN (numF fs 7), capN (numF fs 8), capN (numF fs 9), capN (numF fs 10), str8 (txtF fs 11)⟩
def tg11 : List (Int × Bool) := [(1, false), (2, false), (3, false), (4, false), (5, false), (6, false), (7, false), (8, false), (9, false), (10, false), (11, true)]
theorem ts_of {w1 w2 : World} {base q b : Nat} {L : List (Fld × Value)} {ts : List (Int × Bool)} (h : Tk w1 w2 base q b L ts) :
    ∃ W, w2.alloc (.cells (stA zeroS (.slice none 0 0)) 25) = W ∧ Ts w1 w2 W base q b w2.heap.size L ts := by
  have hB : Below w2.heap.size w2 (w2.alloc (.cells (stA zeroS (.slice none 0 0)) 25)) := (Below.refl _ _).alloc (Nat.le_refl _) _
  exact ⟨_, rfl, ⟨h.keep hB, StAt.new w2 zeroS _, Kept.of_bel hB, h.lts.1, h.lts.2, Nat.le_refl _, h.kep.size⟩⟩
set_option maxRecDepth 20000 in
set_option maxHeartbeats 4000000 in
theorem takeFields_any (w1 w2 : World) (base q b : Nat) (L : List (Fld × Value)) (h : Tk w1 w2 base q b L []) :
    Calls Try.prog 27 #[.pointer (some ⟨q, 0, none⟩)] w2 fun r w3 => r = .returned (.agg (stA (stOf (L.map Prod.fst)) (.slice none 0 0))) ∧ Tk w1 w3 base q b L tg11 ∧ Kept q b w2 w3 := by
  obtain ⟨W, hW, hT⟩ := ts_of h
  have hW2 : w2.alloc (.cells #[.int .i64 0, .int .i64 0, .int .i64 0, .int .i64 0, .int .i64 0, .slice none 0 0, .int .i64 0, .int .i64 0, .int .i64 0, .int .i64 0, .int .i64 0, .string ⟨#[]⟩] 25) = W := hW
  have HT : Hid (Ts w1 w2 W base q b w2.heap.size L []) := hT
  obtain ⟨N1, hN1⟩ : ∃ N, capN (numF (L.map Prod.fst) 1) = N := ⟨_, rfl⟩
  have HN1 : Hid (_) := hN1
  obtain ⟨N2, hN2⟩ : ∃ N, capN (numF (L.map Prod.fst) 2) = N := ⟨_, rfl⟩
  have HN2 : Hid (_) := hN2
  obtain ⟨N3, hN3⟩ : ∃ N, capN (numF (L.map Prod.fst) 3) = N := ⟨_, rfl⟩
  have HN3 : Hid (_) := hN3
  obtain ⟨N4, hN4⟩ : ∃ N, capN (numF (L.map Prod.fst) 4) = N := ⟨_, rfl⟩
  have HN4 : Hid (_) := hN4
  obtain ⟨N5, hN5⟩ : ∃ N, capN (numF (L.map Prod.fst) 5) = N := ⟨_, rfl⟩
  have HN5 : Hid (_) := hN5
  obtain ⟨N6, hN6⟩ : ∃ N, capN (numF (L.map Prod.fst) 6) = N := ⟨_, rfl⟩
  have HN6 : Hid (_) := hN6
  obtain ⟨N7, hN7⟩ : ∃ N, capN (numF (L.map Prod.fst) 7) = N := ⟨_, rfl⟩
  have HN7 : Hid (_) := hN7
  obtain ⟨N8, hN8⟩ : ∃ N, capN (numF (L.map Prod.fst) 8) = N := ⟨_, rfl⟩
  have HN8 : Hid (_) := hN8
  obtain ⟨N9, hN9⟩ : ∃ N, capN (numF (L.map Prod.fst) 9) = N := ⟨_, rfl⟩
  have HN9 : Hid (_) := hN9
  obtain ⟨N10, hN10⟩ : ∃ N, capN (numF (L.map Prod.fst) 10) = N := ⟨_, rfl⟩
  have HN10 : Hid (_) := hN10
  obtain ⟨S, hS⟩ : ∃ S, str8 (txtF (L.map Prod.fst) 11) = S := ⟨_, rfl⟩
  have HSS : Hid (_) := hS
  have HF : Hid (stOf (L.map Prod.fst) = ⟨N1, N2, N3, N4, N5, [], N6, N7, N8, N9, N10, S⟩) := by show _ = _; unfold stOf; rw [hN1, hN2, hN3, hN4, hN5, hN6, hN7, hN8, hN9, hN10, hS]
  clear h hW hT hS hN1 hN2 hN3 hN4 hN5 hN6 hN7 hN8 hN9 hN10
  go_enter Try.func27, Try.ntmps27
  go_wp2_with (first
    | (go_at_call_of 43 (Value.int IntKind.i64 1); refine (cnumber_tk 1 w1 _ base q b L [] HT.out.tk (by simp) (by decide)).mono ?_; rw [HN1.out]; rintro r x1 ⟨rfl, h1, h2⟩; have HT1 := Ts.step HT.out h1 h2; clear HT h1 h2; have HT : Hid (Ts w1 w2 x1 base q b w2.heap.size L [(1, false)]) := HT1; clear HT1)
    | (go_at_call_of 43 (Value.int IntKind.i64 2); refine (cnumber_tk 2 w1 _ base q b L [(1, false)] HT.out.tk (by simp) (by decide)).mono ?_; rw [HN2.out]; rintro r x2 ⟨rfl, h1, h2⟩; have HT1 := Ts.step HT.out h1 h2; clear HT h1 h2; have HT : Hid (Ts w1 w2 x2 base q b w2.heap.size L [(1, false), (2, false)]) := HT1; clear HT1)
    | (go_at_call_of 43 (Value.int IntKind.i64 3); refine (cnumber_tk 3 w1 _ base q b L [(1, false), (2, false)] HT.out.tk (by simp) (by decide)).mono ?_; rw [HN3.out]; rintro r x3 ⟨rfl, h1, h2⟩; have HT1 := Ts.step HT.out h1 h2; clear HT h1 h2; have HT : Hid (Ts w1 w2 x3 base q b w2.heap.size L [(1, false), (2, false), (3, false)]) := HT1; clear HT1)
    | (go_at_call_of 43 (Value.int IntKind.i64 4); refine (cnumber_tk 4 w1 _ base q b L [(1, false), (2, false), (3, false)] HT.out.tk (by simp) (by decide)).mono ?_; rw [HN4.out]; rintro r x4 ⟨rfl, h1, h2⟩; have HT1 := Ts.step HT.out h1 h2; clear HT h1 h2; have HT : Hid (Ts w1 w2 x4 base q b w2.heap.size L [(1, false), (2, false), (3, false), (4, false)]) := HT1; clear HT1)
    | (go_at_call_of 43 (Value.int IntKind.i64 5); refine (cnumber_tk 5 w1 _ base q b L [(1, false), (2, false), (3, false), (4, false)] HT.out.tk (by simp) (by decide)).mono ?_; rw [HN5.out]; rintro r x5 ⟨rfl, h1, h2⟩; have HT1 := Ts.step HT.out h1 h2; clear HT h1 h2; have HT : Hid (Ts w1 w2 x5 base q b w2.heap.size L [(1, false), (2, false), (3, false), (4, false), (5, false)]) := HT1; clear HT1)
    | (go_at_call_of 43 (Value.int IntKind.i64 6); refine (cnumber_tk 6 w1 _ base q b L [(1, false), (2, false), (3, false), (4, false), (5, false)] HT.out.tk (by simp) (by decide)).mono ?_; rw [HN6.out]; rintro r x6 ⟨rfl, h1, h2⟩; have HT1 := Ts.step HT.out h1 h2; clear HT h1 h2; have HT : Hid (Ts w1 w2 x6 base q b w2.heap.size L [(1, false), (2, false), (3, false), (4, false), (5, false), (6, false)]) := HT1; clear HT1)
    | (go_at_call_of 43 (Value.int IntKind.i64 7); refine (cnumber_tk 7 w1 _ base q b L [(1, false), (2, false), (3, false), (4, false), (5, false), (6, false)] HT.out.tk (by simp) (by decide)).mono ?_; rw [HN7.out]; rintro r x7 ⟨rfl, h1, h2⟩; have HT1 := Ts.step HT.out h1 h2; clear HT h1 h2; have HT : Hid (Ts w1 w2 x7 base q b w2.heap.size L [(1, false), (2, false), (3, false), (4, false), (5, false), (6, false), (7, false)]) := HT1; clear HT1)
    | (go_at_call_of 43 (Value.int IntKind.i64 8); refine (cnumber_tk 8 w1 _ base q b L [(1, false), (2, false), (3, false), (4, false), (5, false), (6, false), (7, false)] HT.out.tk (by simp) (by decide)).mono ?_; rw [HN8.out]; rintro r x8 ⟨rfl, h1, h2⟩; have HT1 := Ts.step HT.out h1 h2; clear HT h1 h2; have HT : Hid (Ts w1 w2 x8 base q b w2.heap.size L [(1, false), (2, false), (3, false), (4, false), (5, false), (6, false), (7, false), (8, false)]) := HT1; clear HT1)
    | (go_at_call_of 43 (Value.int IntKind.i64 9); refine (cnumber_tk 9 w1 _ base q b L [(1, false), (2, false), (3, false), (4, false), (5, false), (6, false), (7, false), (8, false)] HT.out.tk (by simp) (by decide)).mono ?_; rw [HN9.out]; rintro r x9 ⟨rfl, h1, h2⟩; have HT1 := Ts.step HT.out h1 h2; clear HT h1 h2; have HT : Hid (Ts w1 w2 x9 base q b w2.heap.size L [(1, false), (2, false), (3, false), (4, false), (5, false), (6, false), (7, false), (8, false), (9, false)]) := HT1; clear HT1)
    | (go_at_call_of 43 (Value.int IntKind.i64 10); refine (cnumber_tk 10 w1 _ base q b L [(1, false), (2, false), (3, false), (4, false), (5, false), (6, false), (7, false), (8, false), (9, false)] HT.out.tk (by simp) (by decide)).mono ?_; rw [HN10.out]; rintro r x10 ⟨rfl, h1, h2⟩; have HT1 := Ts.step HT.out h1 h2; clear HT h1 h2; have HT : Hid (Ts w1 w2 x10 base q b w2.heap.size L [(1, false), (2, false), (3, false), (4, false), (5, false), (6, false), (7, false), (8, false), (9, false), (10, false)]) := HT1; clear HT1)
    | (go_at_call 44; refine (text_tk 11 w1 _ base q b L [(1, false), (2, false), (3, false), (4, false), (5, false), (6, false), (7, false), (8, false), (9, false), (10, false)] HT.out.tk (by simp) (by decide)).mono ?_; rintro r x11 ⟨tv, rfl, hto, h1, h2⟩; have hcn := conv_own hto; rw [HSS.out] at hcn; have HT1 := Ts.step HT.out h1 h2; clear HT h1 h2 hto; have HT : Hid (Ts w1 w2 x11 base q b w2.heap.size L tg11) := HT1; clear HT1)
    | ((with_reducible refine guard_store 25 ?_); refine wpList_store_st (s := zeroS) (s2 := ⟨N1, N2, N3, N4, N5, [], N6, N7, N8, N9, N10, S⟩) (a2 := none) (n2 := 0) (c2 := 0) rfl _ _ rfl (Ts.res HT.out) rfl rfl ?_; intro x12 z1 z2 z3 z4))
  rw [HF.out]
  exact bodyPost_ret (results_st1 rfl _ _ _ rfl z1) rfl ⟨rfl, Ts.poke HT.out (Ts.res HT.out) (Ts.lts HT.out).2.2.1 (os_of z2) z3 z4⟩
end Go.Proofs.Ytfdaefhamoeaiaa
