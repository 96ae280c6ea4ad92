/- Own texts, joined: Cn4, Cn5, Slc, Slc2, Cn6, Sd7. -/
import Derived.Test.YtfcgcpfckbmgnaaGreatK24
import Derived.Test.YtfcgcpfckbmgnaaGreatK45
import Derived.Test.YtfcgcpfckbmgnaaGreatK00
import Derived.Test.YtfcgcpfckbmgnaaGreatRows
namespace Go.Proofs.YtfcgcpfckbmgnaaGreat
open Go.ChangeShapes Go.WideShapes Go.ChangeAt Go.RowKit
set_option linter.unusedVariables false
set_option maxRecDepth 20000 in
theorem ccapped_any (u : Nat) (w : World) : Calls Tryz.prog 56 #[.int .u64 (u : Int)] w fun r w' => r = .returned (.int .i64 (capN u)) ∧ w = w' := by
  by_cases h : u ≤ 4611686018427387904
  · have HC : Hid (capN u = (u : Int)) := if_pos h
    have hI : (u : Int) ≤ 4611686018427387904 := by omega
    clear h
    go_enter Tryz.func56, Tryz.ntmps56
    go_wp2
    go_ret
    exact ⟨by rw [HC.out]; rfl, rfl⟩
  · have HC : Hid (capN u = 4611686018427387904) := if_neg h
    have hI : ¬ (u : Int) ≤ 4611686018427387904 := by omega
    clear h
    go_enter Tryz.func56, Tryz.ntmps56
    go_wp2
    go_ret
    exact ⟨by rw [HC.out]; rfl, rfl⟩
set_option maxRecDepth 20000 in
theorem cnumber_any (t : Int) (w : World) (base q b : Nat) (L : List (Fld × Value)) (e : Nat) (h : RdAt w base q b L e) (ht : (Lit.int .i64 t).wf = true) :
    Calls Tryz.prog 36 #[.pointer (some ⟨q, 0, none⟩), .int .i64 t] w fun r w' => r = .returned (.int .i64 (capN (numF (L.map Prod.fst) t))) ∧ RdPost w base q b L e t false w' := by
  have HR : Hid (RdAt w base q b L e) := h
  obtain ⟨u, hu⟩ : ∃ u, numF (L.map Prod.fst) t = u := ⟨_, rfl⟩
  rw [hu]
  have HU : Hid (_) := hu
  clear h hu
  go_enter Tryz.func36, Tryz.ntmps36
  go_wp2_with (first
    | (go_at_call 57; refine (rnum_any t w base q b L e HR.out ht).mono ?_; rw [HU.out]; rintro r w1 ⟨rfl, hp⟩; have HP : Hid (RdPost w base q b L e t false w1) := hp; clear hp)
    | (go_at_call 56; refine (ccapped_any u w1).mono ?_; rintro r w2 ⟨rfl, rfl⟩))
  go_ret
  exact ⟨rfl, HP.out⟩
theorem cnumber_tk (t : Int) (w1 w2 : World) (base q b : Nat) (L : List (Fld × Value)) (ts : List (Int × Bool)) (h : Tk w1 w2 base q b L ts) (hts : ∀ x ∈ ts, x.1 ≠ t) (ht : (Lit.int .i64 t).wf = true) :
    Calls Tryz.prog 36 #[.pointer (some ⟨q, 0, none⟩), .int .i64 t] w2 fun r w3 => r = .returned (.int .i64 (capN (numF (L.map Prod.fst) t))) ∧ Tk w1 w3 base q b L (ts ++ [(t, false)]) ∧ Kept q b w2 w3 := by
  refine (cnumber_any t w2 base q b _ _ h.rd ht).mono ?_
  rw [tkF_of, numF_tk hts]
  rintro r w3 ⟨rfl, hp⟩
  exact ⟨rfl, h.step hp, hp.2⟩
/-- while a state is taken: the reader, the answer's block rb (nought), all else as it was -/
theorem StAt.kept {w w' : World} {g1 g2 b : Nat} {e : St} {v : Value} (h : StAt w b e v) (hk : Kept g1 g2 w w') (h1 : b ≠ g1) (h2 : b ≠ g2) : StAt w' b e v := (hk.block b h.lt h1 h2).trans h
structure Ts (w1 w2 x : World) (base q b rb : Nat) (L : List (Fld × Value)) (ts : List (Int × Bool)) : Prop where
  tk : Tk w1 x base q b L ts
  res : StAt x rb zeroS (.slice none 0 0)
  kep : Kept q b w2 x
  lts : q < w2.heap.size ∧ b < w2.heap.size ∧ w2.heap.size ≤ rb ∧ w1.heap.size ≤ w2.heap.size
theorem Ts.step {w1 w2 x y : World} {base q b rb : Nat} {L : List (Fld × Value)} {ts ts' : List (Int × Bool)} (h : Ts w1 w2 x base q b rb L ts) (ht : Tk w1 y base q b L ts') (hk : Kept q b x y) : Ts w1 w2 y base q b rb L ts' :=
  ⟨ht, h.res.kept hk (by have := h.lts; omega) (by have := h.lts; omega), h.kep.chain hk, h.lts⟩
theorem Ts.keep {w1 w2 x y : World} {base q b rb : Nat} {L : List (Fld × Value)} {ts : List (Int × Bool)} (h : Ts w1 w2 x base q b rb L ts) (hb : Below x.heap.size x y) : Ts w1 w2 y base q b rb L ts :=
  h.step (h.tk.keep hb) (Kept.of_bel hb)
theorem Ts.poke {w1 w2 x y : World} {base q b rb : Nat} {L : List (Fld × Value)} {ts : List (Int × Bool)} (h : Ts w1 w2 x base q b rb L ts) {k : Nat} {e : St} {ev : Value} (he : StAt x k e ev) (hk : w2.heap.size ≤ k) (ho : y.os = x.os ∧ y.tape = x.tape ∧ y.output = x.output) (hj : ∀ j, j ≠ k → y.heap[j]? = x.heap[j]?) (hs : y.heap.size = x.heap.size) : Tk w1 y base q b L ts ∧ Kept q b w2 y := by
  obtain ⟨l1, l2, l3, l4⟩ := h.lts
  obtain ⟨n, D, hm, hr⟩ := h.tk.rd.map
  have hle : w2.heap.size ≤ x.heap.size := h.kep.size
  refine ⟨⟨⟨(hj q (by omega)).trans h.tk.rd.blk, ⟨n, D, owns_same hm (hj b (by omega)), hr⟩, fun p hp => own_other (h.tk.rd.byt p hp) (x := k) (y := k) (fun c hc => ?_) (fun c hc => ?_) (fun j _ j2 _ => hj j j2)⟩, ⟨ho.1.trans h.tk.kep.os, ho.2.1.trans h.tk.kep.tape, ho.2.2.trans h.tk.kep.output, by rw [hs]; omega, fun j j1 j2 j3 => (hj j (by omega)).trans (h.tk.kep.block j j1 j2 j3)⟩⟩, ⟨ho.1.trans h.kep.os, ho.2.1.trans h.kep.tape, ho.2.2.trans h.kep.output, by rw [hs]; exact hle, fun j j1 j2 j3 => (hj j (by omega)).trans (h.kep.block j j1 j2 j3)⟩⟩
  · unfold StAt at he; rw [he] at hc; cases hc
  · unfold StAt at he; rw [he] at hc; cases hc
/-- the state that the fields tell of, but for its lines -/
def stOf (fs : List Fld) : St := ⟨capN (numF fs 1), capN (numF fs 2), capN (numF fs 3), capN (numF fs 4), capN (numF fs 5), [], capN (numF fs 6), capN (numF fs 7), capN (numF fs 8), capN (numF fs 9), capN (numF fs 10), str8 (txtF fs 11)⟩
def tg11 : List (Int × Bool) := [(1, false), (2, false), (3, false), (4, false), (5, false), (6, false), (7, false), (8, false), (9, false), (10, false), (11, true)]
theorem ts_of {w1 w2 : World} {base q b : Nat} {L : List (Fld × Value)} {ts : List (Int × Bool)} (h : Tk w1 w2 base q b L ts) :
    ∃ W, w2.alloc (.cells (stA zeroS (.slice none 0 0)) 28) = W ∧ Ts w1 w2 W base q b w2.heap.size L ts := by
  have hB : Below w2.heap.size w2 (w2.alloc (.cells (stA zeroS (.slice none 0 0)) 28)) := (Below.refl _ _).alloc (Nat.le_refl _) _
  exact ⟨_, rfl, ⟨h.keep hB, StAt.new w2 zeroS _, Kept.of_bel hB, h.lts.1, h.lts.2, Nat.le_refl _, h.kep.size⟩⟩
set_option maxRecDepth 20000 in
set_option maxHeartbeats 4000000 in
theorem takeFields_any (w1 w2 : World) (base q b : Nat) (L : List (Fld × Value)) (h : Tk w1 w2 base q b L []) :
    Calls Tryz.prog 17 #[.pointer (some ⟨q, 0, none⟩)] w2 fun r w3 => r = .returned (.agg (stA (stOf (L.map Prod.fst)) (.slice none 0 0))) ∧ Tk w1 w3 base q b L tg11 ∧ Kept q b w2 w3 := by
  obtain ⟨W, hW, hT⟩ := ts_of h
  have hW2 : w2.alloc (.cells #[.int .i64 0, .int .i64 0, .int .i64 0, .int .i64 0, .int .i64 0, .slice none 0 0, .int .i64 0, .int .i64 0, .int .i64 0, .int .i64 0, .int .i64 0, .string ⟨#[]⟩] 28) = W := hW
  have HT : Hid (Ts w1 w2 W base q b w2.heap.size L []) := hT
  obtain ⟨N1, hN1⟩ : ∃ N, capN (numF (L.map Prod.fst) 1) = N := ⟨_, rfl⟩
  have HN1 : Hid (_) := hN1
  obtain ⟨N2, hN2⟩ : ∃ N, capN (numF (L.map Prod.fst) 2) = N := ⟨_, rfl⟩
  have HN2 : Hid (_) := hN2
  obtain ⟨N3, hN3⟩ : ∃ N, capN (numF (L.map Prod.fst) 3) = N := ⟨_, rfl⟩
  have HN3 : Hid (_) := hN3
  obtain ⟨N4, hN4⟩ : ∃ N, capN (numF (L.map Prod.fst) 4) = N := ⟨_, rfl⟩
  have HN4 : Hid (_) := hN4
  obtain ⟨N5, hN5⟩ : ∃ N, capN (numF (L.map Prod.fst) 5) = N := ⟨_, rfl⟩
  have HN5 : Hid (_) := hN5
  obtain ⟨N6, hN6⟩ : ∃ N, capN (numF (L.map Prod.fst) 6) = N := ⟨_, rfl⟩
  have HN6 : Hid (_) := hN6
  obtain ⟨N7, hN7⟩ : ∃ N, capN (numF (L.map Prod.fst) 7) = N := ⟨_, rfl⟩
  have HN7 : Hid (_) := hN7
  obtain ⟨N8, hN8⟩ : ∃ N, capN (numF (L.map Prod.fst) 8) = N := ⟨_, rfl⟩
  have HN8 : Hid (_) := hN8
  obtain ⟨N9, hN9⟩ : ∃ N, capN (numF (L.map Prod.fst) 9) = N := ⟨_, rfl⟩
  have HN9 : Hid (_) := hN9
  obtain ⟨N10, hN10⟩ : ∃ N, capN (numF (L.map Prod.fst) 10) = N := ⟨_, rfl⟩
  have HN10 : Hid (_) := hN10
  obtain ⟨S, hS⟩ : ∃ S, str8 (txtF (L.map Prod.fst) 11) = S := ⟨_, rfl⟩
  have HSS : Hid (_) := hS
  have HF : Hid (stOf (L.map Prod.fst) = ⟨N1, N2, N3, N4, N5, [], N6, N7, N8, N9, N10, S⟩) := by show _ = _; unfold stOf; rw [hN1, hN2, hN3, hN4, hN5, hN6, hN7, hN8, hN9, hN10, hS]
  clear h hW hT hS hN1 hN2 hN3 hN4 hN5 hN6 hN7 hN8 hN9 hN10
  go_enter Tryz.func17, Tryz.ntmps17
  go_wp2_with (first
    | (go_at_call_of 36 (Value.int IntKind.i64 1); refine (cnumber_tk 1 w1 _ base q b L [] HT.out.tk (by simp) (by decide)).mono ?_; rw [HN1.out]; rintro r x1 ⟨rfl, h1, h2⟩; have HT1 := Ts.step HT.out h1 h2; clear HT h1 h2; have HT : Hid (Ts w1 w2 x1 base q b w2.heap.size L [(1, false)]) := HT1; clear HT1)
    | (go_at_call_of 36 (Value.int IntKind.i64 2); refine (cnumber_tk 2 w1 _ base q b L [(1, false)] HT.out.tk (by simp) (by decide)).mono ?_; rw [HN2.out]; rintro r x2 ⟨rfl, h1, h2⟩; have HT1 := Ts.step HT.out h1 h2; clear HT h1 h2; have HT : Hid (Ts w1 w2 x2 base q b w2.heap.size L [(1, false), (2, false)]) := HT1; clear HT1)
    | (go_at_call_of 36 (Value.int IntKind.i64 3); refine (cnumber_tk 3 w1 _ base q b L [(1, false), (2, false)] HT.out.tk (by simp) (by decide)).mono ?_; rw [HN3.out]; rintro r x3 ⟨rfl, h1, h2⟩; have HT1 := Ts.step HT.out h1 h2; clear HT h1 h2; have HT : Hid (Ts w1 w2 x3 base q b w2.heap.size L [(1, false), (2, false), (3, false)]) := HT1; clear HT1)
    | (go_at_call_of 36 (Value.int IntKind.i64 4); refine (cnumber_tk 4 w1 _ base q b L [(1, false), (2, false), (3, false)] HT.out.tk (by simp) (by decide)).mono ?_; rw [HN4.out]; rintro r x4 ⟨rfl, h1, h2⟩; have HT1 := Ts.step HT.out h1 h2; clear HT h1 h2; have HT : Hid (Ts w1 w2 x4 base q b w2.heap.size L [(1, false), (2, false), (3, false), (4, false)]) := HT1; clear HT1)
    | (go_at_call_of 36 (Value.int IntKind.i64 5); refine (cnumber_tk 5 w1 _ base q b L [(1, false), (2, false), (3, false), (4, false)] HT.out.tk (by simp) (by decide)).mono ?_; rw [HN5.out]; rintro r x5 ⟨rfl, h1, h2⟩; have HT1 := Ts.step HT.out h1 h2; clear HT h1 h2; have HT : Hid (Ts w1 w2 x5 base q b w2.heap.size L [(1, false), (2, false), (3, false), (4, false), (5, false)]) := HT1; clear HT1)
    | (go_at_call_of 36 (Value.int IntKind.i64 6); refine (cnumber_tk 6 w1 _ base q b L [(1, false), (2, false), (3, false), (4, false), (5, false)] HT.out.tk (by simp) (by decide)).mono ?_; rw [HN6.out]; rintro r x6 ⟨rfl, h1, h2⟩; have HT1 := Ts.step HT.out h1 h2; clear HT h1 h2; have HT : Hid (Ts w1 w2 x6 base q b w2.heap.size L [(1, false), (2, false), (3, false), (4, false), (5, false), (6, false)]) := HT1; clear HT1)
    | (go_at_call_of 36 (Value.int IntKind.i64 7); refine (cnumber_tk 7 w1 _ base q b L [(1, false), (2, false), (3, false), (4, false), (5, false), (6, false)] HT.out.tk (by simp) (by decide)).mono ?_; rw [HN7.out]; rintro r x7 ⟨rfl, h1, h2⟩; have HT1 := Ts.step HT.out h1 h2; clear HT h1 h2; have HT : Hid (Ts w1 w2 x7 base q b w2.heap.size L [(1, false), (2, false), (3, false), (4, false), (5, false), (6, false), (7, false)]) := HT1; clear HT1)
    | (go_at_call_of 36 (Value.int IntKind.i64 8); refine (cnumber_tk 8 w1 _ base q b L [(1, false), (2, false), (3, false), (4, false), (5, false), (6, false), (7, false)] HT.out.tk (by simp) (by decide)).mono ?_; rw [HN8.out]; rintro r x8 ⟨rfl, h1, h2⟩; have HT1 := Ts.step HT.out h1 h2; clear HT h1 h2; have HT : Hid (Ts w1 w2 x8 base q b w2.heap.size L [(1, false), (2, false), (3, false), (4, false), (5, false), (6, false), (7, false), (8, false)]) := HT1; clear HT1)
    | (go_at_call_of 36 (Value.int IntKind.i64 9); refine (cnumber_tk 9 w1 _ base q b L [(1, false), (2, false), (3, false), (4, false), (5, false), (6, false), (7, false), (8, false)] HT.out.tk (by simp) (by decide)).mono ?_; rw [HN9.out]; rintro r x9 ⟨rfl, h1, h2⟩; have HT1 := Ts.step HT.out h1 h2; clear HT h1 h2; have HT : Hid (Ts w1 w2 x9 base q b w2.heap.size L [(1, false), (2, false), (3, false), (4, false), (5, false), (6, false), (7, false), (8, false), (9, false)]) := HT1; clear HT1)
    | (go_at_call_of 36 (Value.int IntKind.i64 10); refine (cnumber_tk 10 w1 _ base q b L [(1, false), (2, false), (3, false), (4, false), (5, false), (6, false), (7, false), (8, false), (9, false)] HT.out.tk (by simp) (by decide)).mono ?_; rw [HN10.out]; rintro r x10 ⟨rfl, h1, h2⟩; have HT1 := Ts.step HT.out h1 h2; clear HT h1 h2; have HT : Hid (Ts w1 w2 x10 base q b w2.heap.size L [(1, false), (2, false), (3, false), (4, false), (5, false), (6, false), (7, false), (8, false), (9, false), (10, false)]) := HT1; clear HT1)
    | (go_at_call 37; refine (text_tk 11 w1 _ base q b L [(1, false), (2, false), (3, false), (4, false), (5, false), (6, false), (7, false), (8, false), (9, false), (10, false)] HT.out.tk (by simp) (by decide)).mono ?_; rintro r x11 ⟨tv, rfl, hto, h1, h2⟩; have hcn := conv_own hto; rw [HSS.out] at hcn; have HT1 := Ts.step HT.out h1 h2; clear HT h1 h2 hto; have HT : Hid (Ts w1 w2 x11 base q b w2.heap.size L tg11) := HT1; clear HT1)
    | ((with_reducible refine guard_store 28 ?_); refine wpList_store_st (s := zeroS) (s2 := ⟨N1, N2, N3, N4, N5, [], N6, N7, N8, N9, N10, S⟩) (a2 := none) (n2 := 0) (c2 := 0) rfl _ _ rfl (Ts.res HT.out) rfl rfl ?_; intro x12 z1 z2 z3 z4))
  rw [HF.out]
  exact bodyPost_ret (results_st1 rfl _ _ _ rfl z1) rfl ⟨rfl, Ts.poke HT.out (Ts.res HT.out) (Ts.lts HT.out).2.2.1 (os_of z2) z3 z4⟩
end Go.Proofs.YtfcgcpfckbmgnaaGreat
namespace Go.Proofs.YtfcgcpfckbmgnaaGreat
open Go.ChangeShapes Go.WideShapes Go.ChangeAt Go.RowKit
set_option linter.unusedVariables false
/-- a row of texts of the call's own (from block bt on), their bytes (from block base on) -/
structure Txs (w : World) (bt base : Nat) (v : Value) (T : List (List Nat × Value)) : Prop where
  own : w.ownsRow bt 22 1 v T.length (T.map Prod.snd)
  byt : ∀ p ∈ T, Own w base p.2 p.1
theorem Txs.keep {w w' : World} {bt base : Nat} {v : Value} {T : List (List Nat × Value)} (h : Txs w bt base v T) (hb : Below w.heap.size w w') : Txs w' bt base v T :=
  ⟨own_below h.own hb, fun p hp => ⟨(h.byt p hp).1, own_below (h.byt p hp).2 hb⟩⟩
theorem Txs.nil (w : World) (bt base : Nat) : Txs w bt base (.slice none 0 0) [] := ⟨World.ownsRow_nil w bt _ 1, fun p hp => by cases hp⟩
/-- the reader is elsewhere than a row of texts -/
theorem Tk.grown {w1 w2 w3 : World} {base q b bt n : Nat} {L : List (Fld × Value)} {ts : List (Int × Bool)} {v : Value} {xs : List Value} (h : Tk w1 w2 base q b L ts) (hr : w2.ownsRow bt 22 1 v n xs) (hbt : w1.heap.size ≤ bt) (hg : w2.grownBy w3 v.ownBlock) : Tk w1 w3 base q b L ts := by
  obtain ⟨n, D, hm, hrp⟩ := h.rd.map
  obtain ⟨es, c, hbm⟩ := map_blk hm
  have hne : ∀ k, (∀ c, w2.heap[k]? ≠ some (.cells c 22)) → some k ≠ v.ownBlock := by
    intro k hk hv
    obtain ⟨_, c, hc⟩ := row_blk hr hv.symm
    exact hk c hc
  have h1 : w3.heap[q]? = w2.heap[q]? := hg.block q (lt_of_heap h.rd.blk) (hne q (fun c hc => by rw [h.rd.blk] at hc; cases hc))
  have h2 : w3.heap[b]? = w2.heap[b]? := hg.block b (lt_of_heap hbm) (hne b (fun c hc => by rw [hbm] at hc; cases hc))
  refine ⟨⟨h1.trans h.rd.blk, ⟨n, D, owns_same hm h2, hrp⟩, fun p hp => ⟨(h.rd.byt p hp).1, row_at (h.rd.byt p hp).2 (fun g hgb hlt => hg.block g hlt (hne g (fun c hc => ?_)))⟩⟩, ⟨hg.os.trans h.kep.os, hg.tape.trans h.kep.tape, hg.output.trans h.kep.output, Nat.le_trans h.kep.size hg.size, fun k hk k1 k2 => (hg.block k (Nat.lt_of_lt_of_le hk h.kep.size) ?_).trans (h.kep.block k hk k1 k2)⟩⟩
  · obtain ⟨_, c2, hc2⟩ := row_blk (h.rd.byt p hp).2 hgb
    rw [hc2] at hc; cases hc
  · intro hv
    have := (row_blk hr hv.symm).1
    omega
theorem own_grownT {w w' : World} {bt base n : Nat} {v p : Value} {xs : List Value} {l : List Nat} (ho : w.ownsRow bt 22 1 v n xs) (hg : w.grownBy w' v.ownBlock) (hp : Own w base p l) : Own w' base p l := by
  refine ⟨hp.1, row_at hp.2 (fun g hgb hlt => hg.block g hlt (fun hv => ?_))⟩
  obtain ⟨_, c, hc⟩ := row_blk ho hv.symm
  obtain ⟨_, c2, hc2⟩ := row_blk hp.2 hgb
  rw [hc2] at hc; cases hc
/-- the texts from tag 12 + k on, up to the first that holds nothing, f at most -/
def txsFrom (fs : List Fld) : Nat → Nat → List (List Nat)
  | 0, _ => []
  | f + 1, k => if txtF fs (12 + (k : Int)) = [] then [] else txtF fs (12 + (k : Int)) :: txsFrom fs f (k + 1)
/-- the tags that are asked for -/
def tgsFrom (fs : List Fld) : Nat → Nat → List (Int × Bool)
  | 0, _ => []
  | f + 1, k => (12 + (k : Int), true) :: (if txtF fs (12 + (k : Int)) = [] then [] else tgsFrom fs f (k + 1))
theorem Tryz.infoBs : (Tryz.prog.info? 22).map (fun i => (i.zero, i.size, i.bytes)) = some (some (.slice none 0 0), 1, 24) := by kernel_rfl
theorem bcell_new (w : World) (v : Value) (t : TypeId) : ∀ j u, [v][j]? = some u → (w.alloc (.cells #[v] t)).cell? ((⟨w.heap.size, 0, none⟩ : Addr).add j) = some u := by
  intro j u hj
  cases j with
  | zero =>
    simp at hj; subst hj
    rw [show (⟨w.heap.size, 0, none⟩ : Addr).add 0 = ⟨w.heap.size, 0, none⟩ from by simp [Addr.add]]
    rw [cell_of_row (w.alloc (.cells #[v] t)) w.heap.size 0 #[v] t (0, 0) (heap_alloc_new w _)]
    rfl
  | succ j => simp at hj
theorem Txs.snoc {w : World} {bt base : Nat} {v t : Value} {T : List (List Nat × Value)} {l : List Nat} (h1 : w.ownsRow bt 22 1 v (T.length + 1) (T.map Prod.snd ++ [t])) (h2 : ∀ p ∈ T, Own w base p.2 p.1) (h3 : Own w base t l) : Txs w bt base v (T ++ [(l, t)]) :=
  ⟨by rw [List.length_append, List.map_append]; exact h1, fun p hp => by rcases List.mem_append.1 hp with h | h; exact h2 p h; rw [List.mem_singleton.1 h]; exact h3⟩
theorem Kept.chain2 {x y : Nat} {a b c : World} (h : Kept x y a b) (k : Kept x y b c) : Kept x y a c :=
  ⟨k.os.trans h.os, k.tape.trans h.tape, k.output.trans h.output, Nat.le_trans h.size k.size, fun j hj h1 h2 => (k.block j (Nat.lt_of_lt_of_le hj h.size) h1 h2).trans (h.block j hj h1 h2)⟩
theorem Kept.grown2 {x y bt n : Nat} {a b c : World} {v : Value} {xs : List Value} (h : Kept x y a b) (ho : b.ownsRow bt 22 1 v n xs) (hbt : a.heap.size ≤ bt) (hg : b.grownBy c v.ownBlock) : Kept x y a c :=
  ⟨hg.os.trans h.os, hg.tape.trans h.tape, hg.output.trans h.output, Nat.le_trans h.size hg.size, fun j hj h1 h2 => (hg.block j (Nat.lt_of_lt_of_le hj h.size) (fun hv => by have := (row_blk ho hv.symm).1; omega)).trans (h.block j hj h1 h2)⟩
set_option maxRecDepth 20000 in
set_option maxHeartbeats 4000000 in
theorem takeTexts_any (w1 w2 : World) (base q b : Nat) (L : List (Fld × Value)) (fs : List Fld) (hL : L.map Prod.fst = fs) (h : Tk w1 w2 base q b L tg11) :
    Calls Tryz.prog 18 #[.pointer (some ⟨q, 0, none⟩)] w2 fun r w3 => ∃ v T, r = .returned v ∧ T.map Prod.fst = txsFrom fs 16 0 ∧ Txs w3 w2.heap.size base v T ∧ Tk w1 w3 base q b L (tg11 ++ tgsFrom fs 16 0) ∧ Kept q b w2 w3 := by
  obtain ⟨i0, hi, hz0, hz1, hz2⟩ := info_parts Tryz.infoBs
  have HF : Hid (L.map Prod.fst = fs) := hL
  have HT0 : Hid (Tk w1 w2 base q b L tg11) := h
  have HQ : Hid (q < w2.heap.size ∧ b < w2.heap.size ∧ w1.heap.size ≤ w2.heap.size) := ⟨h.lts.1, h.lts.2, h.kep.size⟩
  clear h hL
  go_enter Tryz.func18, Tryz.ntmps18
  go_wp2
  go_loopw [3, 6] (fun vt vi wr => ∃ (v0 : Value) (k : Nat) (T : List (List Nat × Value)) (TS : List (Int × Bool)), v0 = vt ∧ k ≤ 16 ∧ vi = .int .i64 k ∧ T.length = k ∧ Hid (T.map Prod.fst ++ txsFrom fs (16 - k) k = txsFrom fs 16 0 ∧ TS ++ tgsFrom fs (16 - k) k = tg11 ++ tgsFrom fs 16 0 ∧ (∀ x ∈ TS, x.1 < 12 + (k : Int)) ∧ Txs wr w2.heap.size base v0 T ∧ Tk w1 wr base q b L TS ∧ Kept q b w2 wr)) (fun _ vi _ => 16 - (intOf vi).toNat)
  case atStart => exact ⟨_, 0, [], tg11, rfl, by omega, rfl, rfl, rfl, rfl, by unfold tg11; simp, Txs.nil _ _ _, HT0.out, Kept.refl _ _ _⟩
  case round =>
    clear HT0
    obtain ⟨v0, k, T, TS, rfl, hk, rfl, hTk, HI⟩ := hrel
    have HTK : Hid (T.length = k) := hTk
    clear hTk
    by_cases hk16 : k < 16
    · obtain ⟨f, hf⟩ : ∃ f, 16 - k = f + 1 := ⟨15 - k, by omega⟩
      have HFK : Hid (16 - (k + 1) = f) := by show _ = _; omega
      obtain ⟨t, ht⟩ : ∃ t, txtF fs (12 + (k : Int)) = t := ⟨_, rfl⟩
      have H1 : Hid (T.map Prod.fst ++ (if t = [] then [] else t :: txsFrom fs f (k + 1)) = txsFrom fs 16 0 ∧ TS ++ ((12 + (k : Int), true) :: (if t = [] then [] else tgsFrom fs f (k + 1))) = tg11 ++ tgsFrom fs 16 0) := by
        obtain ⟨g1, g2, _⟩ := HI.out
        rw [hf] at g1 g2
        simp only [txsFrom, tgsFrom, ht] at g1 g2
        exact ⟨g1, g2⟩
      have HTX : Hid (txtF (L.map Prod.fst) (12 + (k : Int)) = t) := by show _ = _; rw [HF.out]; exact ht
      have HNT : Hid (∀ x ∈ TS, x.1 ≠ 12 + (k : Int)) := fun x hx => by have := HI.out.2.2.1 x hx; omega
      clear ht hf
      obtain ⟨m, hm⟩ : ∃ m, t.length = m := ⟨_, rfl⟩
      have HM : Hid (_) := hm
      have hwf : (Lit.int .i64 (12 + (k : Int))).wf = true := WalkArith.wf_i64 (by omega)
      have HWF : Hid (_) := hwf
      have HMB : Hid (m = 0 ↔ t = []) := by show _ ↔ _; rw [← hm]; exact List.length_eq_zero_iff
      clear hwf hm
      by_cases hm0 : m = 0
      · subst hm0
        have ht0 := HMB.out.1 rfl
        go_wp2_with (go_at_call 37; refine (text_tk (12 + (k : Int)) w1 _ base q b L TS HI.out.2.2.2.2.1 HNT.out HWF.out).mono ?_; rw [HTX.out]; rintro _ x1 ⟨tv, rfl, hto, h1, h2⟩; obtain ⟨a1, c1, hv1, _, _, _, _⟩ := hto.shape; rw [HM.out] at hv1; subst hv1; have HT1 : Hid (Tk w1 x1 base q b L (TS ++ [(12 + (k : Int), true)])) := h1; have HK1 : Hid (Kept q b wr x1) := h2; clear hto h1 h2)
        go_ret
        refine ⟨_, T, rfl, ?_, ⟨row_at HI.out.2.2.2.1.own (fun g hg hlt => HK1.out.block g hlt ?_ ?_), fun p hp => HI.out.2.2.2.2.1.rd.own HK1.out (HI.out.2.2.2.1.byt p hp)⟩, ?_, HI.out.2.2.2.2.2.chain2 HK1.out⟩
        · have := H1.out.1
          rw [if_pos ht0, List.append_nil] at this
          exact this
        · have := (row_blk HI.out.2.2.2.1.own hg).1; have := HQ.out; omega
        · have := (row_blk HI.out.2.2.2.1.own hg).1; have := HQ.out; omega
        · have := H1.out.2
          rw [if_pos ht0] at this
          rw [← this]
          exact HT1.out
      · have hmb : ((m : Int) == 0) = false := by simp; omega
        have ht0 : ¬ t = [] := fun h => hm0 (HMB.out.2 h)
        have HT0 : Hid (¬ t = []) := ht0
        clear ht0
        go_wp2_with (first
          | (go_at_call 37; refine (text_tk (12 + (k : Int)) w1 _ base q b L TS HI.out.2.2.2.2.1 HNT.out HWF.out).mono ?_; rw [HTX.out]; rintro _ x1 ⟨tv, rfl, hto, h1, h2⟩; obtain ⟨a1, c1, hv1, _, _, _, _⟩ := hto.shape; rw [HM.out] at hv1; subst hv1; have HT1 : Hid (Tk w1 x1 base q b L (TS ++ [(12 + (k : Int), true)])) := h1; have HK1 : Hid (Kept q b wr x1) := h2; have HO1 : Hid (Own x1 base (.slice a1 m c1) t) := hto; have HX1 : Hid (Txs x1 w2.heap.size base v0 T) := (⟨row_at HI.out.2.2.2.1.own (fun g hg hlt => HK1.out.block g hlt (by have := (row_blk HI.out.2.2.2.1.own hg).1; have := HQ.out; omega) (by have := (row_blk HI.out.2.2.2.1.own hg).1; have := HQ.out; omega)), fun p hp => HI.out.2.2.2.2.1.rd.own HK1.out (HI.out.2.2.2.1.byt p hp)⟩); have HL1 : Hid (w2.heap.size ≤ x1.heap.size) := Nat.le_trans HI.out.2.2.2.2.2.size h2.size; clear hto h1 h2)
          | (at_builtin; refine wpList_append_own _ rfl _ _ 57 rfl w2.heap.size 22 i0 (.slice none 0 0) 1 24 Tryz.underlying57 hi hz0 hz1 hz2 rfl (by decide) v0 T.length _ rfl (HX1.out.keep ((Below.refl _ _).alloc (Nat.le_refl _) _)).own ⟨x1.heap.size, 0, none⟩ 1 1 [.slice a1 m c1] rfl rfl (bcell_new x1 _ _) (by intro u hu; rw [List.mem_singleton.1 hu]; rfl) (by have := HTK.out; unfold maxLen; omega) (by have := HTK.out; omega) (by have := HL1.out; simp; omega) ?_; intro v3 w3 ho3 hg3 _; have HG3 : Hid (_) := hg3; have HO3 : Hid (w3.ownsRow w2.heap.size 22 1 v3 (T.length + 1) (T.map Prod.snd ++ [.slice a1 m c1])) := ho3; clear ho3 hg3))
        go_roundw
        case rel =>
          have hX := HX1.out.keep ((Below.refl x1.heap.size x1).alloc (Nat.le_refl _) (.cells #[.slice a1 m c1] 22))
          have hT := HT1.out.keep ((Below.refl x1.heap.size x1).alloc (Nat.le_refl _) (.cells #[.slice a1 m c1] 22))
          have hO := own_app HO1.out ((Below.refl x1.heap.size x1).alloc (Nat.le_refl _) (.cells #[.slice a1 m c1] 22))
          have hK := (HI.out.2.2.2.2.2.chain2 HK1.out).chain2 (Kept.of_bel ((Below.refl x1.heap.size x1).alloc (Nat.le_refl _) (.cells #[.slice a1 m c1] 22)))
          refine ⟨v3, k + 1, T ++ [(t, .slice a1 m c1)], TS ++ [(12 + (k : Int), true)], rfl, by omega, by go_num, by rw [List.length_append, HTK.out]; rfl, ?_, ?_, ?_, Txs.snoc HO3.out (fun p hp => own_grownT hX.own HG3.out (hX.byt p hp)) (own_grownT hX.own HG3.out hO), hT.grown hX.own HQ.out.2.2 HG3.out, hK.grown2 hX.own (Nat.le_refl _) HG3.out⟩
          · have := H1.out.1
            rw [if_neg HT0.out] at this
            rw [HFK.out, List.map_append, List.append_assoc]
            exact this
          · have := H1.out.2
            rw [if_neg HT0.out] at this
            rw [HFK.out, List.append_assoc]
            exact this
          · intro x hx
            rcases List.mem_append.1 hx with h | h
            · have := HI.out.2.2.1 x h; omega
            · rw [List.mem_singleton.1 h]; show 12 + (k : Int) < _; omega
        case measure => simp [intOf]; omega
    · obtain rfl : k = 16 := by omega
      go_wp2
      go_ret
      refine ⟨_, T, rfl, ?_, HI.out.2.2.2.1, ?_, HI.out.2.2.2.2.2⟩
      · have h2 := HI.out.1
        rw [show txsFrom fs (16 - 16) 16 = [] from rfl, List.append_nil] at h2
        exact h2
      · have h1 := HI.out.2.2.2.2.1
        have h2 := HI.out.2.1
        rw [show tgsFrom fs (16 - 16) 16 = [] from rfl, List.append_nil] at h2
        rw [← h2]
        exact h1
end Go.Proofs.YtfcgcpfckbmgnaaGreat
namespace Go.Proofs.YtfcgcpfckbmgnaaGreat
open Go.ChangeShapes Go.WideShapes Go.ChangeAt Go.RowKit
set_option linter.unusedVariables false
theorem bytes_cut {w : World} {a : Option Addr} {l : List Nat} (h : Bytes w a l) (i cap : Nat) (hi : i ≤ l.length) (hc : l.length ≤ cap) : Bytes w (if cap = i then a else a.map (·.add (i * 1))) (l.drop i) := by
  by_cases hci : cap = i
  · rw [if_pos hci, List.drop_of_length_le (by omega)]
    exact Bytes.none _ _
  · rw [if_neg hci]
    rcases h.2 with rfl | ⟨b, off, rfl, hlt, hcell⟩
    · rw [List.drop_nil]
      exact Bytes.none _ _
    · have e : (⟨b, off, none⟩ : Addr).add (i * 1) = ⟨b, off + i, none⟩ := by rw [Nat.mul_one]; simp [Addr.add]
      rw [Option.map_some, e]
      exact h.drop i
theorem slice_under : Tryz.prog.underlying 22 = some (.slice (Tryz.prog.elem 22)) := by kernel_rfl
theorem slice_size (w : World) : (sizeOf (Tryz.prog.elem 22)).run Tryz.prog w = .ok 1 w := by kernel_rfl
theorem at_slice {ops : Array Oper} {rest : List Oper} {a : Act} {w : World} {Q : Exit → Act → World → Prop} {dst : Option Tmp} {ty : TypeId} {pos : String} {after : Array Edge} {s lo : Operand}
    (h : wpList Tryz.prog ops Q (⟨dst, .slice 22 s (some lo) none none, ty, pos, after, none⟩ :: rest) a w) : wpList Tryz.prog ops Q (⟨dst, .slice 22 s (some lo) none none, ty, pos, after, none⟩ :: rest) a w := h
theorem wpList_slice_l {ops : Array Oper} {rest : List Oper} {o : Oper} {a : Act} {w : World} {Q : Exit → Act → World → Prop} (hgd : o.guard = none) (s lo : Operand) (ho : o.op = .slice 22 s (some lo) none none)
    {A : Option Addr} {n cap i : Nat} {l : List Nat} (hs : a.eval s = .slice A n cap) (hlo : a.eval lo = .int .i64 (i : Int)) (hi : i ≤ n) (hn : n ≤ cap) (hl : l.length = n) (hb : Bytes w A l)
    (h : ∀ x, Bytes w x (l.drop i) → wpList Tryz.prog ops Q rest (a.put o.dst (.slice x (n - i) (cap - i))) w) : wpList Tryz.prog ops Q (o :: rest) a w :=
  wpList_plain hgd fun _ hK => by
    have hrun := run_slice_l (P := Tryz.prog) w 22 A n cap slice_under .i64 (i : Int) (by omega) (by omega)
    unfold Oper.wp execOp
    simp only [ho, hs, hlo, Option.map_some, Option.map_none, Sem.run_bind, Sem.run_pure, Result.andThen_ok, run_sliceAt_slice (P := Tryz.prog) w 22 _ _ _ _ slice_under, hrun, slice_size, sliced, Int.toNat_natCast]
    exact hK _ _ (h _ (bytes_cut hb i cap (by omega) (by omega)))
end Go.Proofs.YtfcgcpfckbmgnaaGreat
namespace Go.Proofs.YtfcgcpfckbmgnaaGreat
open Go.ChangeShapes Go.WideShapes Go.ChangeAt Go.RowKit
set_option linter.unusedVariables false
theorem wpList_slice_l2 {ops : Array Oper} {rest : List Oper} {o : Oper} {a : Act} {w : World} {Q : Exit → Act → World → Prop} (hgd : o.guard = none) (s lo : Operand) (ho : o.op = .slice 22 s (some lo) none none)
    {A : Option Addr} {n cap i : Nat} {l : List Nat} (hs : a.eval s = .slice A n cap) (hlo : a.eval lo = .int .i64 (i : Int)) (hi : i ≤ n) (hn : n ≤ cap) (hl : l.length = n)
    (h : ∀ x, (∀ w0, Bytes w0 A l → Bytes w0 x (l.drop i)) → wpList Tryz.prog ops Q rest (a.put o.dst (.slice x (n - i) (cap - i))) w) : wpList Tryz.prog ops Q (o :: rest) a w :=
  wpList_plain hgd fun _ hK => by
    have hrun := run_slice_l (P := Tryz.prog) w 22 A n cap slice_under .i64 (i : Int) (by omega) (by omega)
    unfold Oper.wp execOp
    simp only [ho, hs, hlo, Option.map_some, Option.map_none, Sem.run_bind, Sem.run_pure, Result.andThen_ok, run_sliceAt_slice (P := Tryz.prog) w 22 _ _ _ _ slice_under, hrun, slice_size, sliced, Int.toNat_natCast]
    exact hK _ _ (h _ (fun w0 hb => bytes_cut hb i cap (by omega) (by omega)))
end Go.Proofs.YtfcgcpfckbmgnaaGreat
namespace Go.Proofs.YtfcgcpfckbmgnaaGreat
open Go.ChangeShapes Go.WideShapes Go.ChangeAt Go.RowKit
set_option linter.unusedVariables false
def zeroL : Ln := ⟨0, 0, 0, 0⟩
/-- four numbers off a text: what is left, and one more before it .. -/
def rdK0 (a b c d : Int) (r : List Nat) : Ln × Bool := (⟨a, b, c, d⟩, r.isEmpty)
def rdK1 (a b c d : Int) (r : List Nat) : Ln × Bool := if (dec 0 0 r).2.2 ≠ 0 then (zeroL, false) else rdK0 a b c (capN (dec 0 0 r).1) (r.drop (dec 0 0 r).2.1)
def rdK2 (a b c d : Int) (r : List Nat) : Ln × Bool := if (dec 0 0 r).2.2 ≠ 0 then (zeroL, false) else rdK1 a b (capN (dec 0 0 r).1) d (r.drop (dec 0 0 r).2.1)
def rdK3 (a b c d : Int) (r : List Nat) : Ln × Bool := if (dec 0 0 r).2.2 ≠ 0 then (zeroL, false) else rdK2 a (capN (dec 0 0 r).1) c d (r.drop (dec 0 0 r).2.1)
def rdK4 (a b c d : Int) (r : List Nat) : Ln × Bool := if (dec 0 0 r).2.2 ≠ 0 then (zeroL, false) else rdK3 (capN (dec 0 0 r).1) b c d (r.drop (dec 0 0 r).2.1)
def rdK (f : Nat) (a b c d : Int) (r : List Nat) : Ln × Bool := if f = 0 then rdK0 a b c d r else if f = 1 then rdK1 a b c d r else if f = 2 then rdK2 a b c d r else if f = 3 then rdK3 a b c d r else rdK4 a b c d r
/-- what canon.readLine answers -/
def rdLn (l : List Nat) : Ln × Bool := rdK 4 0 0 0 0 l
def LnAt (w : World) (b : Nat) (p : Ln) : Prop := w.heap[b]? = some (.cells (lnA p) 37)
theorem LnAt.lt {w : World} {b : Nat} {p : Ln} (h : LnAt w b p) : b < w.heap.size := lt_of_heap h
theorem LnAt.after {w w' : World} {b : Nat} {p : Ln} (h : LnAt w b p) (hb : Below w.heap.size w w') : LnAt w' b p := (hb.block b h.lt).trans h
theorem LnAt.new (w : World) (p : Ln) : LnAt (w.alloc (.cells (lnA p) 37)) w.heap.size p := heap_alloc_new w _
theorem Tryz.infoL1 : (Tryz.prog.info? 37).map (·.size) = some 4 := by kernel_rfl
theorem LnAt.loadVar {w : World} {b : Nat} {p : Ln} (h : LnAt w b p) : (Go.loadVar 37 ⟨b, 0, none⟩).run Tryz.prog w = .ok (.agg (lnA p)) w :=
  run_loadVar_row _ _ _ _ _ _ _ h Tryz.underlying37 rfl Tryz.infoL1
theorem LnAt.load {w : World} {b : Nat} {p : Ln} (h : LnAt w b p) : (Instr.loadAt 37 (.pointer (some ⟨b, 0, none⟩))).run Tryz.prog w = .ok (.agg (lnA p)) w := by
  simp only [Instr.loadAt, Instr.sureAddr, Sem.run_bind, Sem.run_pure, Result.andThen_ok, h.loadVar]
theorem lnA_one (p : Ln) : (lnA p).all (·.oneCell') = true := by simp [lnA, Value.oneCell']
theorem LnAt.store {w : World} {b : Nat} {p : Ln} (h : LnAt w b p) (p2 : Ln) : ∃ w2, (Instr.storeAt 37 (.pointer (some ⟨b, 0, none⟩)) (.agg (lnA p2))).run Tryz.prog w = .ok () w2 ∧ LnAt w2 b p2 ∧ (∀ B a, Below B a w → B ≤ b → Below B a w2) ∧ (∀ k, k ≠ b → w2.heap[k]? = w.heap[k]?) ∧ w2.heap.size = w.heap.size := by
  refine ⟨w.setRow b (lnA p2), ?_, ?_, fun B a hb hB => below_setRow hb b _ hB, fun k hk => ?_, ?_⟩
  · simp only [Instr.storeAt, Instr.sureAddr, Sem.run_bind, Sem.run_pure, Result.andThen_ok, run_storeVar_row w b 37 37 (lnA p) (lnA p2) h Tryz.infoL1 rfl (lnA_one p2)]
  · unfold LnAt at h ⊢
    simp [World.setRow, Array.getElem?_modify, h]
  · simp only [World.setRow, Array.getElem?_modify]
    rw [if_neg (Ne.symm hk)]
  · simp [World.setRow]
theorem wpList_load_ln {ops : Array Oper} {rest : List Oper} {o : Oper} {a : Act} {w : World} {Q : Exit → Act → World → Prop} (hgd : o.guard = none) (x : Operand) (ho : o.op = .load 37 x)
    {b : Nat} {p : Ln} (hL : LnAt w b p) (hx : a.eval x = .pointer (some ⟨b, 0, none⟩)) (h : wpList Tryz.prog ops Q rest (a.put o.dst (.agg (lnA p))) w) : wpList Tryz.prog ops Q (o :: rest) a w :=
  wpList_plain hgd fun _ hK => by
    unfold Oper.wp execOp
    simp only [ho, hx, Sem.run_bind, Sem.run_pure, Result.andThen_ok, hL.load]
    exact hK _ _ h
theorem wpList_store_ln {ops : Array Oper} {rest : List Oper} {o : Oper} {a : Act} {w : World} {Q : Exit → Act → World → Prop} (hgd : o.guard = none) (x y : Operand) (ho : o.op = .store 37 x y)
    {b : Nat} {p p2 : Ln} (hL : LnAt w b p) (hx : a.eval x = .pointer (some ⟨b, 0, none⟩)) (hy : a.eval y = .agg (lnA p2))
    (h : ∀ w2, LnAt w2 b p2 → (∀ B a, Below B a w → B ≤ b → Below B a w2) → (∀ k, k ≠ b → w2.heap[k]? = w.heap[k]?) → w2.heap.size = w.heap.size → wpList Tryz.prog ops Q rest (a.put o.dst undef) w2) : wpList Tryz.prog ops Q (o :: rest) a w :=
  wpList_plain hgd fun _ hK => by
    obtain ⟨w2, h1, h2, h3, h4, h5⟩ := hL.store p2
    unfold Oper.wp execOp
    simp only [ho, hx, hy, Sem.run_bind, Sem.run_pure, Result.andThen_ok, h1]
    exact hK _ _ (h w2 h2 h3 h4 h5)
theorem results_ln2 {fn : Func} {p u : Tmp} (h : fn.results = #[.cell p 37, .tmp u]) (tmps : Array Value) (w : World) (b : Nat) {e : Ln} (x : Value) (hp : tmps.getD p undef = .pointer (some ⟨b, 0, none⟩)) (hx : tmps.getD u undef = x) (hl : LnAt w b e) :
    (results fn tmps).run Tryz.prog w = .ok (.tuple #[.agg (lnA e), x]) w := by
  rw [results_cell_tmp h, hp]
  simp only [asAddr, Sem.run_pure, Result.andThen_ok, hl.loadVar, hx]
/-- while a line is read: the answer's block (nought), the four numbers -/
structure Rl (w wr : World) (x0 x1 x2 x3 : Int) : Prop where
  res : LnAt wr w.heap.size zeroL
  arr : wr.heap[w.heap.size + 1]? = some (.cells #[.int .i64 x0, .int .i64 x1, .int .i64 x2, .int .i64 x3] 89)
  bel : Below w.heap.size w wr
theorem Rl.cells {w wr : World} {x0 x1 x2 x3 : Int} (h : Rl w wr x0 x1 x2 x3) : (wr.cell? ⟨w.heap.size + 1, 0, none⟩ = some (.int .i64 x0) ∧ wr.cell? ⟨w.heap.size + 1, 1, none⟩ = some (.int .i64 x1) ∧ wr.cell? ⟨w.heap.size + 1, 2, none⟩ = some (.int .i64 x2) ∧ wr.cell? ⟨w.heap.size + 1, 3, none⟩ = some (.int .i64 x3)) ∧ ∀ j, wr.frozen? ⟨w.heap.size + 1, j, none⟩ = false :=
  ⟨⟨by rw [cell_of_row _ _ 0 _ _ _ h.arr]; rfl, by rw [cell_of_row _ _ 1 _ _ _ h.arr]; rfl, by rw [cell_of_row _ _ 2 _ _ _ h.arr]; rfl, by rw [cell_of_row _ _ 3 _ _ _ h.arr]; rfl⟩, fun j => frozen_of_row _ _ j _ _ h.arr⟩
theorem Rl.set {w wr : World} {x0 x1 x2 x3 y0 y1 y2 y3 : Int} (h : Rl w wr x0 x1 x2 x3) (j : Nat) (v : Value) (he : (#[.int .i64 x0, .int .i64 x1, .int .i64 x2, .int .i64 x3] : Array Value).setIfInBounds j v = #[.int .i64 y0, .int .i64 y1, .int .i64 y2, .int .i64 y3]) : Rl w (wr.setCell ⟨w.heap.size + 1, j, none⟩ v) y0 y1 y2 y3 := by
  refine ⟨?_, ?_, h.bel.setCell (p := ⟨w.heap.size + 1, j, none⟩) (Nat.le_succ _) _⟩
  · unfold LnAt
    rw [heap_setCell_other wr ⟨w.heap.size + 1, j, none⟩ w.heap.size _ (by simp)]
    exact h.res
  · rw [heap_setCell_same wr (w.heap.size + 1) j _ _ _ h.arr, he]
theorem Rl.start (w : World) : Rl w ((w.alloc (.cells (lnA zeroL) 37)).alloc (.cells #[.int .i64 0, .int .i64 0, .int .i64 0, .int .i64 0] 89)) 0 0 0 0 := by
  refine ⟨?_, ?_, (((Below.refl _ _).alloc (Nat.le_refl _) _).alloc (by simp) _)⟩
  · exact (LnAt.new w zeroL).after ((Below.refl _ _).alloc (Nat.le_refl _) _)
  · have := heap_alloc_new (w.alloc (.cells (lnA zeroL) 37)) (.cells #[.int .i64 0, .int .i64 0, .int .i64 0, .int .i64 0] 89)
    simpa using this
theorem dec_ns (l : List Nat) (u k e : Nat) (a : Option Addr) (n cap : Nat) (w : World) (hn : l.length = n) (hd : dec 0 0 l = (u, k, e)) (hb : Bytes w a l) (hl : n ≤ maxLen) :
    Calls Tryz.prog 59 #[.slice a n cap] w fun r w' => r = .returned (.tuple #[.int .u64 (u : Int), .int .i64 (k : Int), .int .i64 (e : Int)]) ∧ w = w' := by
  subst hn
  refine (dec_any l a cap w hb hl).mono ?_
  rw [hd]
  exact fun _ _ h => h
set_option maxRecDepth 20000 in
set_option maxHeartbeats 4000000 in
theorem readLine_any (l : List Nat) (a : Option Addr) (n cap : Nat) (w : World) (hn : l.length = n) (hb : Bytes w a l) (hcap : n ≤ cap) (hm : n ≤ maxLen) :
    Calls Tryz.prog 38 #[.slice a n cap] w fun r w' => r = .returned (.tuple #[.agg (lnA (rdLn l).1), .bool (rdLn l).2]) ∧ Below w.heap.size w w' := by
  have hlt := lt_allC hb.1
  have HR0 : Hid (Rl w ((w.alloc (.cells (lnA zeroL) 37)).alloc (.cells #[.int .i64 0, .int .i64 0, .int .i64 0, .int .i64 0] 89)) 0 0 0 0) := Rl.start w
  have HB0 : Hid (Bytes w a l) := hb
  have H0 : Hid (∃ P, rdLn l = P) := ⟨_, rfl⟩
  obtain ⟨P, hP⟩ := H0.out
  have HP : Hid (rdLn l = P) := hP
  rw [hP]
  clear hb hP H0
  go_enter Tryz.func38, Tryz.ntmps38
  go_wp2
  go_loopw [0, 9] (fun vt vi wr => ∃ (k m c : Nat) (xa : Option Addr) (r : List Nat) (x0 x1 x2 x3 : Int), k ≤ 4 ∧ vi = .int .i64 k ∧ vt = .slice xa m c ∧ m ≤ c ∧ m ≤ n ∧ Hid (r.length = m ∧ (∀ x ∈ r, x < 256) ∧ Bytes w xa r ∧ rdK (4 - k) x0 x1 x2 x3 r = P ∧ Rl w wr x0 x1 x2 x3)) (fun _ vi _ => 4 - (intOf vi).toNat)
  case atStart => exact ⟨0, n, cap, a, l, 0, 0, 0, 0, by omega, rfl, rfl, hcap, Nat.le_refl _, hn, hlt, HB0.out, HP.out, HR0.out⟩
  case round =>
    clear HR0 HP hn hlt
    obtain ⟨k, m, c, xa, r, x0, x1, x2, x3, hk, rfl, rfl, hmc, hmn, HI⟩ := hrel
    have hmm : m ≤ maxLen := by omega
    have HBR : Hid (Bytes wr xa r) := HI.out.2.2.1.keep HI.out.2.2.2.2.bel
    obtain ⟨⟨c0, c1, c2, c3⟩, cf⟩ := HI.out.2.2.2.2.cells
    have f0 := cf 0
    have f1 := cf 1
    have f2 := cf 2
    have f3 := cf 3
    clear cf
    by_cases hk4 : k < 4
    · rcases hd : dec 0 0 r with ⟨u, sz, e⟩
      have HD : Hid (_) := hd
      by_cases he : e = 0
      · subst he
        have hf := vdec_form r HI.out.2.1 (by rw [hd])
        rw [hd] at hf
        obtain ⟨_, hsz, _, _, _⟩ := hf
        simp only at hsz
        have hszm : sz ≤ m := by have := HI.out.1; omega
        have HDL : Hid ((r.drop sz).length = m - sz) := by show _ = _; rw [List.length_drop, HI.out.1]
        have HDT : Hid (∀ x ∈ r.drop sz, x < 256) := fun x hx => HI.out.2.1 x (List.mem_of_mem_drop hx)
        have hmz : m - sz ≤ c - sz := by omega
        have hmz2 : m - sz ≤ n := by omega
        clear hd hsz
        have hk5 : k = 0 ∨ k = 1 ∨ k = 2 ∨ k = 3 := by omega
        rcases hk5 with rfl | rfl | rfl | rfl
        · have HK : Hid (rdK 3 (capN u) x1 x2 x3 (r.drop sz) = P) := by
            have h := HI.out.2.2.2.1
            change (if (dec 0 0 r).2.2 ≠ 0 then (zeroL, false) else rdK 3 (capN (dec 0 0 r).1) x1 x2 x3 (r.drop (dec 0 0 r).2.1)) = P at h
            rw [HD.out] at h
            simp only [ne_eq, not_true_eq_false, if_false] at h
            exact h
          go_wp2_with (first
            | (go_at_call 59; refine (dec_ns r u sz 0 xa m c _ HI.out.1 HD.out HBR.out hmm).mono ?_; rintro _ w2 ⟨rfl, rfl⟩)
            | (go_at_call 56; refine (ccapped_any u _).mono ?_; rintro _ w2 ⟨rfl, rfl⟩)
            | (refine wpList_slice_l2 rfl _ _ rfl (l := r) rfl rfl hszm hmc HI.out.1 ?_; intro ya hya; have HYA : Hid (Bytes w ya (r.drop sz)) := hya w HI.out.2.2.1; clear hya))
          go_roundw
          case rel => exact ⟨0 + 1, m - sz, c - sz, ya, r.drop sz, (capN u), x1, x2, x3, by omega, by go_num, rfl, hmz, hmz2, HDL.out, HDT.out, HYA.out, HK.out, HI.out.2.2.2.2.set 0 _ rfl⟩
          case measure => simp [intOf]
        · have HK : Hid (rdK 2 x0 (capN u) x2 x3 (r.drop sz) = P) := by
            have h := HI.out.2.2.2.1
            change (if (dec 0 0 r).2.2 ≠ 0 then (zeroL, false) else rdK 2 x0 (capN (dec 0 0 r).1) x2 x3 (r.drop (dec 0 0 r).2.1)) = P at h
            rw [HD.out] at h
            simp only [ne_eq, not_true_eq_false, if_false] at h
            exact h
          go_wp2_with (first
            | (go_at_call 59; refine (dec_ns r u sz 0 xa m c _ HI.out.1 HD.out HBR.out hmm).mono ?_; rintro _ w2 ⟨rfl, rfl⟩)
            | (go_at_call 56; refine (ccapped_any u _).mono ?_; rintro _ w2 ⟨rfl, rfl⟩)
            | (refine wpList_slice_l2 rfl _ _ rfl (l := r) rfl rfl hszm hmc HI.out.1 ?_; intro ya hya; have HYA : Hid (Bytes w ya (r.drop sz)) := hya w HI.out.2.2.1; clear hya))
          go_roundw
          case rel => exact ⟨1 + 1, m - sz, c - sz, ya, r.drop sz, x0, (capN u), x2, x3, by omega, by go_num, rfl, hmz, hmz2, HDL.out, HDT.out, HYA.out, HK.out, HI.out.2.2.2.2.set 1 _ rfl⟩
          case measure => simp [intOf]
        · have HK : Hid (rdK 1 x0 x1 (capN u) x3 (r.drop sz) = P) := by
            have h := HI.out.2.2.2.1
            change (if (dec 0 0 r).2.2 ≠ 0 then (zeroL, false) else rdK 1 x0 x1 (capN (dec 0 0 r).1) x3 (r.drop (dec 0 0 r).2.1)) = P at h
            rw [HD.out] at h
            simp only [ne_eq, not_true_eq_false, if_false] at h
            exact h
          go_wp2_with (first
            | (go_at_call 59; refine (dec_ns r u sz 0 xa m c _ HI.out.1 HD.out HBR.out hmm).mono ?_; rintro _ w2 ⟨rfl, rfl⟩)
            | (go_at_call 56; refine (ccapped_any u _).mono ?_; rintro _ w2 ⟨rfl, rfl⟩)
            | (refine wpList_slice_l2 rfl _ _ rfl (l := r) rfl rfl hszm hmc HI.out.1 ?_; intro ya hya; have HYA : Hid (Bytes w ya (r.drop sz)) := hya w HI.out.2.2.1; clear hya))
          go_roundw
          case rel => exact ⟨2 + 1, m - sz, c - sz, ya, r.drop sz, x0, x1, (capN u), x3, by omega, by go_num, rfl, hmz, hmz2, HDL.out, HDT.out, HYA.out, HK.out, HI.out.2.2.2.2.set 2 _ rfl⟩
          case measure => simp [intOf]
        · have HK : Hid (rdK 0 x0 x1 x2 (capN u) (r.drop sz) = P) := by
            have h := HI.out.2.2.2.1
            change (if (dec 0 0 r).2.2 ≠ 0 then (zeroL, false) else rdK 0 x0 x1 x2 (capN (dec 0 0 r).1) (r.drop (dec 0 0 r).2.1)) = P at h
            rw [HD.out] at h
            simp only [ne_eq, not_true_eq_false, if_false] at h
            exact h
          go_wp2_with (first
            | (go_at_call 59; refine (dec_ns r u sz 0 xa m c _ HI.out.1 HD.out HBR.out hmm).mono ?_; rintro _ w2 ⟨rfl, rfl⟩)
            | (go_at_call 56; refine (ccapped_any u _).mono ?_; rintro _ w2 ⟨rfl, rfl⟩)
            | (refine wpList_slice_l2 rfl _ _ rfl (l := r) rfl rfl hszm hmc HI.out.1 ?_; intro ya hya; have HYA : Hid (Bytes w ya (r.drop sz)) := hya w HI.out.2.2.1; clear hya))
          go_roundw
          case rel => exact ⟨3 + 1, m - sz, c - sz, ya, r.drop sz, x0, x1, x2, (capN u), by omega, by go_num, rfl, hmz, hmz2, HDL.out, HDT.out, HYA.out, HK.out, HI.out.2.2.2.2.set 3 _ rfl⟩
          case measure => simp [intOf]
      · have hen : ((e : Int) != 0) = true := by simp; omega
        have HK : Hid (P = (zeroL, false)) := by
          have h := HI.out.2.2.2.1
          have hk5 : k = 0 ∨ k = 1 ∨ k = 2 ∨ k = 3 := by omega
          rcases hk5 with rfl | rfl | rfl | rfl
          · change (if (dec 0 0 r).2.2 ≠ 0 then (zeroL, false) else _) = P at h
            rw [HD.out, if_pos he] at h; exact h.symm
          · change (if (dec 0 0 r).2.2 ≠ 0 then (zeroL, false) else _) = P at h
            rw [HD.out, if_pos he] at h; exact h.symm
          · change (if (dec 0 0 r).2.2 ≠ 0 then (zeroL, false) else _) = P at h
            rw [HD.out, if_pos he] at h; exact h.symm
          · change (if (dec 0 0 r).2.2 ≠ 0 then (zeroL, false) else _) = P at h
            rw [HD.out, if_pos he] at h; exact h.symm
        have HRS : Hid (LnAt wr w.heap.size zeroL) := HI.out.2.2.2.2.res
        clear hd
        go_wp2_with (first
          | (go_at_call 59; refine (dec_ns r u sz e xa m c _ HI.out.1 HD.out HBR.out hmm).mono ?_; rintro _ w2 ⟨rfl, rfl⟩)
          | ((with_reducible refine guard_store 37 ?_); refine wpList_store_ln (p := zeroL) (p2 := zeroL) rfl _ _ rfl HRS.out rfl rfl ?_; intro w4 z1 z2 z3 z4))
        rw [HK.out]
        exact bodyPost_ret (results_ln2 rfl _ _ _ _ rfl rfl z1) rfl ⟨rfl, z2 _ _ HI.out.2.2.2.2.bel (Nat.le_refl _)⟩
    · obtain rfl : k = 4 := by omega
      have HK : Hid (P = (⟨x0, x1, x2, x3⟩, ((m : Int) == 0))) := by
        have h := HI.out.2.2.2.1
        rw [← h, show 4 - 4 = 0 from rfl]
        have h1 := HI.out.1
        show rdK0 x0 x1 x2 x3 r = _
        simp only [rdK0, Prod.mk.injEq, true_and]
        cases r with
        | nil => simp at h1; subst h1; rfl
        | cons y t =>
          simp only [List.length_cons] at h1
          have : ((m : Int) == 0) = false := by simp; omega
          rw [this]; rfl
      have HRS : Hid (LnAt wr w.heap.size zeroL) := HI.out.2.2.2.2.res
      go_wp2_with ((with_reducible refine guard_store 37 ?_); refine wpList_store_ln (p := zeroL) (p2 := ⟨x0, x1, x2, x3⟩) rfl _ _ rfl HRS.out rfl rfl ?_; intro w4 z1 z2 z3 z4)
      rw [HK.out]
      exact bodyPost_ret (results_ln2 rfl _ _ _ _ rfl rfl z1) rfl ⟨rfl, z2 _ _ HI.out.2.2.2.2.bel (Nat.le_refl _)⟩
/-- what canon.readLines answers -/
def rdAll : List (List Nat) → List Ln × Bool
  | [] => ([], true)
  | t :: r => if (rdLn t).2 = true ∧ (rdAll r).2 = true then ((rdLn t).1 :: (rdAll r).1, true) else ([], false)
def rdC (acc : List Ln) (x : List Ln × Bool) : List Ln × Bool := if x.2 = true then (acc ++ x.1, true) else ([], false)
theorem rdC_cons (acc : List Ln) (t : List Nat) (r : List (List Nat)) : rdC acc (rdAll (t :: r)) = if (rdLn t).2 = true then rdC (acc ++ [(rdLn t).1]) (rdAll r) else ([], false) := by
  unfold rdC
  by_cases h1 : (rdLn t).2 = true
  · by_cases h2 : (rdAll r).2 = true
    · have e1 : rdAll (t :: r) = ((rdLn t).1 :: (rdAll r).1, true) := by show (if _ then _ else _) = _; rw [if_pos ⟨h1, h2⟩]
      rw [e1, if_pos h1, if_pos h2]
      simp
    · have e1 : rdAll (t :: r) = ([], false) := by show (if _ then _ else _) = _; rw [if_neg (fun h => h2 h.2)]
      rw [e1, if_pos h1, if_neg h2]
      rfl
  · have e1 : rdAll (t :: r) = ([], false) := by show (if _ then _ else _) = _; rw [if_neg (fun h => h1 h.1)]
    rw [e1, if_neg h1]
    rfl
theorem rdC_nil (x : List Nat) : True := trivial
theorem rdC_start (T : List (List Nat)) : rdC [] (rdAll T) = rdAll T := by
  unfold rdC
  cases T with
  | nil => rfl
  | cons t r =>
    simp only [rdAll]
    split
    · rfl
    · rfl
set_option maxRecDepth 20000 in
set_option maxHeartbeats 4000000 in
theorem readLines_any (T : List (List Nat × Value)) (bt base : Nat) (a : Option Addr) (n cap : Nat) (w : World) (hn : T.length = n) (hT : Txs w bt base (.slice a n cap) T) (hm : n ≤ 16) (hlen : ∀ p ∈ T, p.1.length ≤ 200) :
    Calls Tryz.prog 20 #[.slice a n cap] w fun r w' => ∃ v', r = .returned (.tuple #[v', .bool (rdAll (T.map Prod.fst)).2]) ∧ OwnL w' w.heap.size v' (rdAll (T.map Prod.fst)).1 ∧ Below w.heap.size w w' := by
  obtain ⟨i0, hi, hz0, hz1, hz2⟩ := info_parts Tryz.infoLn
  have HN : Hid (T.length = n) := hn
  have HT : Hid (Txs w bt base (.slice a n cap) T) := hT
  have HL : Hid (∀ p ∈ T, p.1.length ≤ 200) := hlen
  obtain ⟨P, hP⟩ : ∃ P, rdAll (T.map Prod.fst) = P := ⟨_, rfl⟩
  have HP : Hid (rdC [] (rdAll ((T.map Prod.fst).drop 0)) = P) := by show _ = _; rw [List.drop_zero, rdC_start]; exact hP
  rw [hP]
  clear hn hT hP hlen
  go_enter Tryz.func20, Tryz.ntmps20
  go_wp2
  go_loopw [4, 11] (fun vl vi wr => ∃ (v0 : Value) (k : Nat) (acc : List Ln), v0 = vl ∧ k ≤ n ∧ vi = .int .i64 k ∧ acc.length = k ∧ Hid (rdC acc (rdAll ((T.map Prod.fst).drop k)) = P ∧ OwnL wr w.heap.size v0 acc ∧ Below w.heap.size w wr)) (fun _ vi _ => n - (intOf vi).toNat)
  case atStart => exact ⟨_, 0, [], rfl, Nat.zero_le _, rfl, rfl, HP.out, OwnL.nil _ _, Below.refl _ _⟩
  case round =>
    clear HP
    obtain ⟨v0, k, acc, rfl, hk, rfl, hacc, HI⟩ := hrel
    have HA : Hid (acc.length = k) := hacc
    clear hacc
    by_cases hkn : k < n
    · obtain ⟨⟨t, tv⟩, hp⟩ := ln_get (L := T) (k := k) (by rw [HN.out]; exact hkn)
      have hmem := List.mem_of_getElem? hp
      have hTw := HT.out.keep HI.out.2.2
      obtain ⟨ta, tc, htv, htc, _, hty, _⟩ := (hTw.byt _ hmem).shape
      simp only at htv htc hty
      have HTL : Hid (t.length ≤ 200) := HL.out _ hmem
      obtain ⟨m, hmE⟩ : ∃ m, t.length = m := ⟨_, rfl⟩
      rw [hmE] at htv htc
      subst htv
      have HM : Hid (t.length = m) := hmE
      have hm200 : m ≤ maxLen := by have := HTL.out; unfold maxLen; omega
      have HY : Hid (Bytes wr ta t) := hty
      obtain ⟨g, hge, hgl, hgc⟩ : ∃ g, a = some ⟨g, 0, none⟩ ∧ g < wr.heap.size ∧ wr.cell? ⟨g, k, none⟩ = some (.slice ta m tc) := by
        rcases hTw.own.2 with ⟨h1, h2⟩ | ⟨g, cp, cur, h1, h2, h3, _⟩
        · have h2' : T.length = 0 := h2
          have := HN.out
          omega
        · injection h1 with h1a
          refine ⟨g, h1a, lt_of_heap h3, ?_⟩
          have hown := hTw.own
          rw [h1a, ← HN.out] at hown
          have h5 := World.ownsRow.cellAt hown k (show k < T.length * 1 by have := HN.out; omega)
          rw [h5, List.getElem?_map, hp]; rfl
      subst hge
      have HDR : Hid (rdC acc (rdAll ((T.map Prod.fst).drop k)) = if (rdLn t).2 = true then rdC (acc ++ [(rdLn t).1]) (rdAll ((T.map Prod.fst).drop (k + 1))) else ([], false)) := by
        show _ = _
        rw [ln_drop (T.map Prod.fst) k t (by rw [List.getElem?_map, hp]; rfl), rdC_cons]
      obtain ⟨p, okb, hpo⟩ : ∃ p okb, rdLn t = (p, okb) := ⟨_, _, rfl⟩
      have HPO : Hid (rdLn t = (p, okb)) := hpo
      rw [hpo] at HDR
      clear hp hmem hTw hty hmE hpo
      cases okb with
      | false =>
        have HF : Hid (P = ([], false)) := by show _ = _; rw [← HI.out.1, HDR.out]; rfl
        go_wp2_with (first
          | (go_at_call 38; refine (readLine_any t ta m tc _ HM.out HY.out htc hm200).mono ?_; rw [HPO.out]; rintro _ x1 ⟨rfl, hb1⟩; have HB1 : Hid (Below w.heap.size w x1) := below_next HI.out.2.2 hb1; clear hb1)
          | ((with_reducible refine guard_store 37 ?_); refine wpList_store_ln (p := zeroL) (p2 := p) rfl _ _ rfl (LnAt.new x1 zeroL) rfl rfl ?_; intro x2 z1 z2 z3 z4; have HB2 : Hid (Below w.heap.size w x2) := below_next HB1.out (z2 _ _ ((Below.refl _ _).alloc (Nat.le_refl _) _) (Nat.le_refl _)); clear z1 z2 z3 z4))
        go_ret2
        exact ⟨.slice none 0 0, by rw [HF.out]; rfl, by rw [HF.out]; exact OwnL.nil _ _, HB2.out⟩
      | true =>
        have hsz4 : (lnA p).size = 4 := rfl
        have HF : Hid (rdC (acc ++ [p]) (rdAll ((T.map Prod.fst).drop (k + 1))) = P) := by show _ = _; rw [← HI.out.1, HDR.out]; rfl
        go_wp2_with (first
          | (go_at_call 38; refine (readLine_any t ta m tc _ HM.out HY.out htc hm200).mono ?_; rw [HPO.out]; rintro _ x1 ⟨rfl, hb1⟩; have HB1 : Hid (Below w.heap.size w x1) := below_next HI.out.2.2 hb1; have HO1 : Hid (OwnL x1 w.heap.size v0 acc) := HI.out.2.1.keep hb1; clear hb1)
          | ((with_reducible refine guard_store 37 ?_); refine wpList_store_ln (p := zeroL) (p2 := p) rfl _ _ rfl (LnAt.new x1 zeroL) rfl rfl ?_; intro x2 z1 z2 z3 z4; have hu := (z2 _ _ ((Below.refl x1.heap.size x1).alloc (Nat.le_refl _) _) (Nat.le_refl _)); have HB2 : Hid (Below w.heap.size w x2) := below_next HB1.out hu; have HO2 : Hid (OwnL x2 w.heap.size v0 acc) := OwnL.keep HO1.out hu; have HZ2 : Hid (LnAt x2 x1.heap.size p) := z1; clear z1 z2 z3 z4 hu)
          | ((with_reducible refine guard_load 37 ?_); refine wpList_load_ln rfl _ rfl HZ2.out rfl ?_)
          | (at_builtin; refine wpList_append_own _ rfl _ _ 26 rfl w.heap.size 37 i0 (.agg #[.int .i64 0, .int .i64 0, .int .i64 0, .int .i64 0]) 4 32 Tryz.underlying26 hi hz0 hz1 hz2 rfl (by decide) v0 acc.length _ rfl (OwnL.keep HO2.out ((Below.refl _ _).alloc (Nat.le_refl _) _)) ⟨x2.heap.size, 0, none⟩ 1 1 [.int .i64 p.item, .int .i64 p.price, .int .i64 p.qty, .int .i64 p.shipped] rfl rfl (lncell_new x2 p _) (by intro u hu; simp only [List.mem_cons, List.not_mem_nil, or_false] at hu; rcases hu with rfl | rfl | rfl | rfl <;> rfl) (by have := HA.out; unfold maxLen; omega) (by have := HA.out; omega) (by have := HB2.out.size; simp; omega) ?_; intro v3 w3 ho3 hg3 _; have HB3 : Hid (Below w.heap.size w w3) := grown_row (HB2.out.alloc HB2.out.size _) (OwnL.keep HO2.out ((Below.refl _ _).alloc (Nat.le_refl _) _)) (by have := HB2.out.size; simp; omega) hg3; have HO3 : Hid (OwnL w3 w.heap.size v3 (acc ++ [p])) := OwnL.snoc rfl ho3; clear ho3 hg3))
        go_roundw
        case rel => exact ⟨v3, k + 1, acc ++ [p], rfl, by omega, by go_num, by rw [List.length_append, HA.out]; rfl, HF.out, HO3.out, HB3.out⟩
        case measure => simp [intOf]; omega
    · have HF : Hid (P = (acc, true)) := by
        show _ = _
        rw [← HI.out.1, List.drop_eq_nil_of_le (by rw [List.length_map, HN.out]; omega)]
        simp [rdC, rdAll]
      go_wp2
      go_ret2
      exact ⟨v0, by rw [HF.out]; rfl, by rw [HF.out]; exact HI.out.2.1, HI.out.2.2⟩
end Go.Proofs.YtfcgcpfckbmgnaaGreat
namespace Go.Proofs.YtfcgcpfckbmgnaaGreat
open Go.ChangeShapes Go.WideShapes Go.ChangeAt Go.RowKit
set_option linter.unusedVariables false
theorem Tk.poke {w1 x y : World} {base q b : Nat} {L : List (Fld × Value)} {ts : List (Int × Bool)} (h : Tk w1 x base q b L ts) {k : Nat} {e : Ev} (he : EvAt x k e) (hk : w1.heap.size ≤ k) (ho : y.os = x.os ∧ y.tape = x.tape ∧ y.output = x.output) (hj : ∀ j, j ≠ k → y.heap[j]? = x.heap[j]?) (hs : y.heap.size = x.heap.size) : Tk w1 y base q b L ts := by
  obtain ⟨n, D, hm, hr⟩ := h.rd.map
  obtain ⟨es, c, hbm⟩ := map_blk hm
  have hqk : q ≠ k := by
    intro hh
    have h1 := h.rd.blk
    unfold EvAt at he
    rw [hh, he] at h1
    cases h1
  have hbk : b ≠ k := by
    intro hh
    unfold EvAt at he
    rw [hh, he] at hbm
    cases hbm
  refine ⟨⟨(hj q hqk).trans h.rd.blk, ⟨n, D, owns_same hm (hj b hbk), hr⟩, fun p hp => own_other (h.rd.byt p hp) (x := k) (y := k) (fun c hc => ?_) (fun c hc => ?_) (fun j _ j2 _ => hj j j2)⟩, ⟨ho.1.trans h.kep.os, ho.2.1.trans h.kep.tape, ho.2.2.trans h.kep.output, by rw [hs]; exact h.kep.size, fun j j1 j2 j3 => (hj j (by omega)).trans (h.kep.block j j1 j2 j3)⟩⟩
  · unfold EvAt at he; rw [he] at hc; cases hc
  · unfold EvAt at he; rw [he] at hc; cases hc
/-- while schema.Decode reads: the reader, the answer's block (nought), nothing older has turned -/
structure Dv (w w3 x : World) (base q b : Nat) (L : List (Fld × Value)) (ts : List (Int × Bool)) : Prop where
  tk : Tk w3 x base q b L ts
  res : EvAt x w.heap.size zeroE
  bel : Below w.heap.size w x
  lts : w.heap.size < q ∧ w.heap.size < b ∧ w.heap.size < w3.heap.size
theorem Dv.step {w w3 x y : World} {base q b : Nat} {L : List (Fld × Value)} {ts ts' : List (Int × Bool)} (h : Dv w w3 x base q b L ts) (ht : Tk w3 y base q b L ts') (hk : Kept q b x y) : Dv w w3 y base q b L ts' := by
  obtain ⟨l1, l2, l3⟩ := h.lts
  exact ⟨ht, h.res.kept hk (by omega) (by omega), ⟨hk.os.trans h.bel.os, hk.tape.trans h.bel.tape, hk.output.trans h.bel.output, Nat.le_trans h.bel.size hk.size, fun j hj => (hk.block j (Nat.lt_of_lt_of_le hj h.bel.size) (by omega) (by omega)).trans (h.bel.block j hj)⟩, l1, l2, l3⟩
theorem Dv.keep {w w3 x y : World} {base q b : Nat} {L : List (Fld × Value)} {ts : List (Int × Bool)} (h : Dv w w3 x base q b L ts) (hb : Below x.heap.size x y) : Dv w w3 y base q b L ts :=
  h.step (h.tk.keep hb) (Kept.of_bel hb)
theorem Dv.poke {w w3 x y : World} {base q b : Nat} {L : List (Fld × Value)} {ts : List (Int × Bool)} (h : Dv w w3 x base q b L ts) {k : Nat} {e : Ev} (he : EvAt x k e) (hk : w3.heap.size ≤ k) (ho : y.os = x.os ∧ y.tape = x.tape ∧ y.output = x.output) (hj : ∀ j, j ≠ k → y.heap[j]? = x.heap[j]?) (hs : y.heap.size = x.heap.size) : Dv w w3 y base q b L ts := by
  obtain ⟨l1, l2, l3⟩ := h.lts
  exact ⟨h.tk.poke he hk ho hj hs, (hj _ (by omega)).trans h.res, ⟨ho.1.trans h.bel.os, ho.2.1.trans h.bel.tape, ho.2.2.trans h.bel.output, by rw [hs]; exact h.bel.size, fun j hjj => (hj j (by omega)).trans (h.bel.block j hjj)⟩, l1, l2, l3⟩
theorem Dv.fin {w x y : World} (h : Below w.heap.size w x) {e2 : Ev} (hs : ∀ B a, Below B a x → B ≤ w.heap.size → Below B a y) : Below w.heap.size w y := hs _ _ h (Nat.le_refl _)
/-- what schema.Decode answers, given what the version takes -/
def sdR (v : Int) (ev : List Fld → Ev) (Q : List Fld → Int) (tgs : List (Int × Bool)) (l : List Nat) : Ev × Int :=
  if (recs l).2.2 ≠ 0 then (zeroE, (recs l).2.2)
  else if errR (tkF (recs l).1 tgs) (tkE (recs l).1 tgs) ≠ 0 then (zeroE, errR (tkF (recs l).1 tgs) (tkE (recs l).1 tgs))
  else if chk v { ev (recs l).1 with qty := Q (recs l).1 } ≠ 0 then (zeroE, chk v { ev (recs l).1 with qty := Q (recs l).1 })
  else ({ ev (recs l).1 with qty := Q (recs l).1 }, 0)
theorem tk_ne_q {w1 x : World} {base q b : Nat} {L : List (Fld × Value)} {ts : List (Int × Bool)} (h : Tk w1 x base q b L ts) {k : Nat} {e : Ev} (he : EvAt x k e) : k ≠ q := by
  intro hh
  have h1 := h.rd.blk
  unfold EvAt at he
  rw [← hh, he] at h1
  cases h1
theorem tk_ne_b {w1 x : World} {base q b : Nat} {L : List (Fld × Value)} {ts : List (Int × Bool)} (h : Tk w1 x base q b L ts) {k : Nat} {e : Ev} (he : EvAt x k e) : k ≠ b := by
  intro hh
  obtain ⟨n, D, hm, hr⟩ := h.rd.map
  obtain ⟨es, c, hbm⟩ := map_blk hm
  unfold EvAt at he
  rw [← hh, he] at hbm
  cases hbm
theorem tk_start {w3 : World} {base q b : Nat} {L : List (Fld × Value)} (h : RdAt w3 base q b L 0) : Tk w3 w3 base q b L [] := ⟨h, Kept.refl _ _ _⟩
end Go.Proofs.YtfcgcpfckbmgnaaGreat
