/- Own texts, joined: Rbx, Rch. -/
import Derived.Test.YtlnhhgmdajbepaaK23
import Derived.Deep.DeepCutAuto
import Derived.Test.YtlnhhgmdajbepaaK01
namespace Go.Proofs.Ytlnhhgmdajbepaa
open Go.ChangeShapes Go.WideShapes Go.ChangeAt Go.RowKit
set_option linter.unusedVariables false
set_option linter.unusedSimpArgs false
theorem RdAt.froz {w : World} {k : Nat} {v : Value} {q : Rn} (h : RdAt w k v q) (j : Nat) : w.frozen? ⟨k, j, none⟩ = false := frozen_of_row _ _ j _ _ h
theorem RdAt.set0 {w : World} {k : Nat} {v : Value} {q : Rn} (h : RdAt w k v q) (v2 : Value) : RdAt (w.setCell ⟨k, 0, none⟩ v2) k v2 q := by
  unfold RdAt at h ⊢
  rw [heap_setCell_same w k 0 _ _ _ h]; rfl
theorem RdAt.set2 {w : World} {k : Nat} {v : Value} {q : Rn} (h : RdAt w k v q) (z : Int) : RdAt (w.setCell ⟨k, 2, none⟩ (.int .i64 z)) k v { q with fuse := z } := by
  unfold RdAt at h ⊢
  rw [heap_setCell_same w k 2 _ _ _ h]; rfl
theorem RdAt.set3 {w : World} {k : Nat} {v : Value} {q : Rn} (h : RdAt w k v q) (z : Bool) : RdAt (w.setCell ⟨k, 3, none⟩ (.bool z)) k v { q with off := z } := by
  unfold RdAt at h ⊢
  rw [heap_setCell_same w k 3 _ _ _ h]; rfl
theorem RdAt.set4 {w : World} {k : Nat} {v : Value} {q : Rn} (h : RdAt w k v q) (z : Int) : RdAt (w.setCell ⟨k, 4, none⟩ (.int .i64 z)) k v { q with steps := z } := by
  unfold RdAt at h ⊢
  rw [heap_setCell_same w k 4 _ _ _ h]; rfl
theorem RdAt.set5 {w : World} {k : Nat} {v : Value} {q : Rn} (h : RdAt w k v q) (z : Int) : RdAt (w.setCell ⟨k, 5, none⟩ (.int .i64 z)) k v { q with read := z } := by
  unfold RdAt at h ⊢
  rw [heap_setCell_same w k 5 _ _ _ h]; rfl
theorem FlAt.froz {w : World} {k : Nat} {nm : List UInt8} {v : Value} {s : Int} (h : FlAt w k nm v s) (j : Nat) : w.frozen? ⟨k, j, none⟩ = false := frozen_of_row _ _ j _ _ h
theorem FlAt.set0 {w : World} {k : Nat} {nm : List UInt8} {v : Value} {s : Int} (h : FlAt w k nm v s) (nm2 : List UInt8) : FlAt (w.setCell ⟨k, 0, none⟩ (.string (bs nm2))) k nm2 v s := by
  unfold FlAt at h ⊢
  rw [heap_setCell_same w k 0 _ _ _ h]; rfl
theorem FlAt.set1 {w : World} {k : Nat} {nm : List UInt8} {v : Value} {s : Int} (h : FlAt w k nm v s) (v2 : Value) : FlAt (w.setCell ⟨k, 1, none⟩ v2) k nm v2 s := by
  unfold FlAt at h ⊢
  rw [heap_setCell_same w k 1 _ _ _ h]; rfl
theorem FlAt.set2 {w : World} {k : Nat} {nm : List UInt8} {v : Value} {s : Int} (h : FlAt w k nm v s) (z : Int) : FlAt (w.setCell ⟨k, 2, none⟩ (.int .i64 z)) k nm v z := by
  unfold FlAt at h ⊢
  rw [heap_setCell_same w k 2 _ _ _ h]; rfl
theorem exec_load_rd {o : Oper} {a : Act} {w : World} (x : Operand) (ho : o.op = .load 28 x) {b : Nat} {v : Value} {q : Rn} (hx : a.eval x = .pointer (some ⟨b, 0, none⟩)) (hL : RdAt w b v q) : (execOp a.eval o).run Try.prog w = .ok (.value (rdV v q)) w := by
  unfold execOp
  simp only [ho, hx, Sem.run_bind, Sem.run_pure, Result.andThen_ok, hL.load]
theorem exec_load_op {o : Oper} {a : Act} {w : World} (x : Operand) (ho : o.op = .load 34 x) {b : Nat} {p : Oa} (hx : a.eval x = .pointer (some ⟨b, 0, none⟩)) (hL : OpAt w b p) : (execOp a.eval o).run Try.prog w = .ok (.value (opV p)) w := by
  unfold execOp
  simp only [ho, hx, Sem.run_bind, Sem.run_pure, Result.andThen_ok, hL.load]
theorem exec_load_flb {o : Oper} {a : Act} {w : World} (x : Operand) (ho : o.op = .load 49 x) {b : Nat} {nm : List UInt8} {v : Value} {s : Int} (hx : a.eval x = .pointer (some ⟨b, 0, none⟩)) (hL : FlAt w b nm v s) : (execOp a.eval o).run Try.prog w = .ok (.value (flV nm v s)) w := by
  unfold execOp
  simp only [ho, hx, Sem.run_bind, Sem.run_pure, Result.andThen_ok, hL.load]
theorem exec_load_flr {o : Oper} {a : Act} {w : World} (x : Operand) (ho : o.op = .load 49 x) {b off : Nat} {nm : List UInt8} {v : Value} {s : Int} (hx : a.eval x = .pointer (some ⟨b, off, none⟩)) (hL : w.rangeAt b off [.string (bs nm), v, .int .i64 s]) : (execOp a.eval o).run Try.prog w = .ok (.value (flV nm v s)) w := by
  unfold execOp
  simp only [ho, hx, Sem.run_bind, Sem.run_pure, Result.andThen_ok, run_loadAt_mid w b off 49 [.string (bs nm), v, .int .i64 s] _ hL Try.underlying49 rfl Try.infoFl3]
theorem step_store_fl {ops : Array Oper} {o : Oper} {a : Act} {w : World} {K : Act → World → Prop} {Q : Exit → Act → World → Prop} {X : Prop} (hgd : o.guard = none) (x y : Operand) (ho : o.op = .store 49 x y) (hd : o.dst = none)
    {k : Nat} {nm nm2 : List UInt8} {v v2 : Value} {s s2 : Int} (hL : FlAt w k nm v s) (hv : v2.oneCell' = true) (hx : a.eval x = .pointer (some ⟨k, 0, none⟩)) (hy : a.eval y = flV nm2 v2 s2)
    (h : ∀ w2, FlAt w2 k nm2 v2 s2 → (∀ B a, Below B a w → B ≤ k → Below B a w2) → K a w2) :
    if Region.wanted o (yielded ops a.tmps) = true then Oper.wp Try.prog o a w K Q else X := by
  have hw : Region.wanted o (yielded ops a.tmps) = true := by simp [Region.wanted, hgd]
  rw [if_pos hw]
  obtain ⟨w2, h1, h2, h3⟩ := hL.store (nm2 := nm2) (s2 := s2) hv
  unfold Oper.wp execOp
  simp only [ho, hx, hy, Sem.run_bind, Sem.run_pure, Result.andThen_ok, h1]
  have hp : a.put o.dst undef = a := by rw [hd]; rfl
  exact (show K (a.put o.dst undef) w2 from by rw [hp]; exact h w2 h2 h3)
theorem OpAt.cells {w : World} {k : Nat} {o : Oa} (h : OpAt w k o) : w.cell? ⟨k, 0, none⟩ = some (.int .i64 o.k) ∧ w.cell? ⟨k, 1, none⟩ = some (.string (bs o.nm)) ∧ w.cell? ⟨k, 2, none⟩ = some (.string (bs o.to)) ∧ w.cell? ⟨k, 3, none⟩ = some (.slice o.P o.lb.length o.C) ∧ w.cell? ⟨k, 4, none⟩ = some (.int .i64 o.n) ∧ w.cell? ⟨k, 5, none⟩ = some (.int .i64 o.m) ∧ w.cell? ⟨k, 6, none⟩ = some (.slice o.K o.ks.length o.CK) :=
  ⟨cell_of_row _ _ 0 _ _ _ h, cell_of_row _ _ 1 _ _ _ h, cell_of_row _ _ 2 _ _ _ h, cell_of_row _ _ 3 _ _ _ h, cell_of_row _ _ 4 _ _ _ h, cell_of_row _ _ 5 _ _ _ h, cell_of_row _ _ 6 _ _ _ h⟩
/-- a file of a list, where it lies -/
theorem FlsA.range {w : World} {a : Option Addr} {X : List (Fa × Value)} (h : FlsA w a X) {k : Nat} {f : Fa} {v : Value} (hx : X[k]? = some (f, v)) : ∃ b off, a = some ⟨b, off, none⟩ ∧ b < w.heap.size ∧ w.rangeAt b (off + k * 3) [.string (bs f.name), v, .int .i64 (f.s : Int)] := by
  obtain ⟨b, off, h1, h2, d0, d1, d2⟩ := h.at k _ hx
  refine ⟨b, off, h1, h2, ?_⟩
  intro i u hi
  match i, hi with
  | 0, hi => rw [Nat.add_zero, d0]; exact hi
  | 1, hi => rw [d1]; exact hi
  | 2, hi => rw [d2]; exact hi
  | i + 3, hi => simp at hi
/-- the block of a slice -/
def vblk : Value → Option Nat
  | .slice (some a) _ _ => some a.block
  | _ => none
/-- files as a call leaves them: the row is new, each file's bytes are new or those of a file that came in -/
structure FlsB (X : List (Fa × Value)) (w w' : World) (a : Option Addr) (Y : List (Fa × Value)) : Prop where
  fls : FlsA w' a Y
  row : RowL w.heap.size w' a Y
  vals : ∀ e ∈ Y, (∃ p ∈ X, e.2 = p.2) ∨ ∀ g, vblk e.2 = some g → w.heap.size ≤ g
theorem Own.vblk {x : World} {base : Nat} {v : Value} {l : List Nat} (h : Own x base v l) (g : Nat) (hg : vblk v = some g) : base ≤ g := by
  rcases h.2.2 with ⟨h1, _⟩ | ⟨g2, cap, cur, h1, h2, _⟩
  · rw [h1] at hg; cases hg
  · rw [h1] at hg
    injection hg with hg
    rw [← hg]; exact h2
/-- files whose blocks are among F -/
structure FlsF (F : Nat → Prop) (w : World) (a : Option Addr) (X : List (Fa × Value)) : Prop where
  fls : FlsA w a X
  row : X = [] ∨ ∀ b off o2, a = some ⟨b, off, o2⟩ → F b
  vals : ∀ e ∈ X, e.1.l = [] ∨ ∀ g, vblk e.2 = some g → F g
theorem FlsF.sub {F G : Nat → Prop} {w : World} {a : Option Addr} {X : List (Fa × Value)} (h : FlsF F w a X) (hg : ∀ k, F k → G k) : FlsF G w a X :=
  ⟨h.fls, h.row.imp id (fun h2 b off o2 e => hg _ (h2 b off o2 e)), fun e he => (h.vals e he).imp id (fun h2 g hv => hg _ (h2 g hv))⟩
theorem FlsF.keep {F : Nat → Prop} {w w' : World} {a : Option Addr} {X : List (Fa × Value)} (h : FlsF F w a X) (hb : Below w.heap.size w w') : FlsF F w' a X := ⟨h.fls.keep hb, h.row, h.vals⟩
theorem bytes_same {w w' : World} {a : Option Addr} {l : List Nat} (h : Bytes w a l) (hs : w.heap.size ≤ w'.heap.size) (hk : ∀ b off o2, a = some ⟨b, off, o2⟩ → w'.heap[b]? = w.heap[b]?) : Bytes w' a l := by
  refine ⟨h.1, ?_⟩
  rcases h.2 with h1 | ⟨b, off, he, hlt, hcell⟩
  · exact .inl h1
  · exact .inr ⟨b, off, he, Nat.lt_of_lt_of_le hlt hs, fun i hi => by rw [cell_heapS (hk b off none he)]; exact hcell i hi⟩
/-- a world in which the blocks of F are as they were -/
theorem FlsF.turn {F : Nat → Prop} {w w' : World} {a : Option Addr} {X : List (Fa × Value)} (h : FlsF F w a X) (hs : w.heap.size ≤ w'.heap.size) (hk : ∀ k, F k → w'.heap[k]? = w.heap[k]?) : FlsF F w' a X := by
  refine ⟨⟨?_, fun e he => ?_⟩, h.row, h.vals⟩
  · rcases h.fls.1 with h1 | ⟨g, off, h1, h2, h3⟩
    · exact .inl h1
    · rcases h.row with h4 | h4
      · exact .inl h4
      · exact .inr ⟨g, off, h1, Nat.lt_of_lt_of_le h2 hs, fun j hj => by rw [cell_heapS (hk g (h4 g off none h1))]; exact h3 j hj⟩
  · obtain ⟨a2, c2, h1, h2, h3⟩ := h.fls.byt e he
    rcases h.vals e he with h4 | h4
    · refine ⟨a2, c2, h1, ?_, h3⟩
      rw [h4]; exact Bytes.none _ _
    · exact ⟨a2, c2, h1, bytes_same h2 hs (fun b off o2 e2 => hk b (h4 b (by rw [h1, e2]; rfl))), h3⟩
/-- what a call leaves lies beside what came in -/
theorem FlsB.to {F : Nat → Prop} {X Y : List (Fa × Value)} {w w' : World} {a b : Option Addr} (h : FlsB X w w' b Y) (hX : FlsF F w a X) (hs : w.heap.size ≤ w'.heap.size) : FlsF (fun k => F k ∨ (w.heap.size ≤ k ∧ k < w'.heap.size)) w' b Y := by
  refine ⟨h.fls, ?_, fun e he => ?_⟩
  · rcases h.row with h1 | ⟨g, h1, h2, h3, _⟩
    · exact .inl h1
    · refine .inr (fun b2 off o2 e => .inr ?_)
      rw [h1] at e
      injection e with e
      injection e with e1 _ _
      rw [← e1]
      exact ⟨h2, h3⟩
  · obtain ⟨a2, c2, h4, h5, _⟩ := h.fls.byt e he
    rcases h.vals e he with ⟨p, hp, e1⟩ | h1
    · rcases hX.vals p hp with h6 | h6
      · obtain ⟨a3, c3, h7, _⟩ := hX.fls.byt p hp
        rw [h4, h7] at e1
        injection e1 with _ e3 _
        rw [h6] at e3
        exact .inl (List.length_eq_zero_iff.1 e3)
      · exact .inr (fun g hg => .inl (h6 g (by rw [← e1]; exact hg)))
    · rcases h5.2 with h6 | ⟨b2, off, h6, h7, _⟩
      · exact .inl h6
      · refine .inr (fun g hg => .inr ⟨h1 g hg, ?_⟩)
        rw [h4, h6] at hg
        injection hg with hg
        rw [← hg]; exact h7
end Go.Proofs.Ytlnhhgmdajbepaa
namespace Go.Proofs.Ytlnhhgmdajbepaa
open Go.ChangeShapes Go.WideShapes Go.ChangeAt Go.RowKit
set_option linter.unusedVariables false
set_option linter.unusedSimpArgs false
theorem below_next2 {b : Nat} {w x y : World} (h : Below b w x) (hb : Below x.heap.size x y) (hs : b ≤ x.heap.size) : Below b w y := h.trans (hb.mono hs)
theorem RdAt.lt {w : World} {k : Nat} {v : Value} {q : Rn} (h : RdAt w k v q) : k < w.heap.size := lt_of_heap h
/-- the boxes of change: the disk, the call, the place for the answer -/
structure Ch3 (w x : World) (v : Value) (q : Rn) (o : Oa) : Prop where
  rd : RdAt x w.heap.size v q
  op : OpAt x (w.heap.size + 1) o
  rz : RdAt x (w.heap.size + 1 + 1) (.slice none 0 0) ⟨0, 0, false, 0, 0⟩
  low : Below w.heap.size w x
theorem Ch3.start (w : World) (v : Value) (q : Rn) (o : Oa) : Ch3 w (((w.alloc (.cells #[v, .int .i64 q.room, .int .i64 q.fuse, .bool q.off, .int .i64 q.steps, .int .i64 q.read] 28)).alloc (.cells #[.int .i64 o.k, .string (bs o.nm), .string (bs o.to), .slice o.P o.lb.length o.C, .int .i64 o.n, .int .i64 o.m, .slice o.K o.ks.length o.CK] 34)).alloc (.cells #[.slice none 0 0, .int .i64 0, .int .i64 0, .bool false, .int .i64 0, .int .i64 0] 28)) v q o := by
  have h1 := RdAt.new w v q
  have b2 : ∀ (x : World) (c : Obj), Below x.heap.size x (x.alloc c) := fun x c => (Below.refl _ _).alloc (Nat.le_refl _) _
  refine ⟨(h1.keep (b2 _ _)).keep (b2 _ _), ?_, ?_, ((b2 _ _).alloc (by simp) _).alloc (by rw [World.size_alloc, World.size_alloc]; omega) _⟩
  · have h2 : OpAt ((w.alloc (.cells #[v, .int .i64 q.room, .int .i64 q.fuse, .bool q.off, .int .i64 q.steps, .int .i64 q.read] 28)).alloc (.cells (opL o).toArray 34)) _ o := heap_alloc_new _ _
    rw [World.size_alloc] at h2
    exact h2.keep (b2 _ _)
  · have h3 := RdAt.new ((w.alloc (.cells #[v, .int .i64 q.room, .int .i64 q.fuse, .bool q.off, .int .i64 q.steps, .int .i64 q.read] 28)).alloc (.cells (opL o).toArray 34)) (.slice none 0 0) ⟨0, 0, false, 0, 0⟩
    rw [World.size_alloc, World.size_alloc] at h3
    exact h3
theorem Ch3.keep {w x y : World} {v : Value} {q : Rn} {o : Oa} (h : Ch3 w x v q o) (hb : Below x.heap.size x y) : Ch3 w y v q o := ⟨h.rd.keep hb, h.op.keep hb, h.rz.keep hb, h.low.trans (hb.mono h.low.size)⟩
/-- the disk's files are written anew -/
theorem Ch3.set {w x : World} {v : Value} {q : Rn} {o : Oa} (h : Ch3 w x v q o) (v2 : Value) : Ch3 w (x.setCell ⟨w.heap.size, 0, none⟩ v2) v2 q o :=
  ⟨h.rd.set0 v2, (heap_setCell_other x ⟨w.heap.size, 0, none⟩ _ _ (show w.heap.size + 1 ≠ w.heap.size by omega)).trans h.op, (heap_setCell_other x ⟨w.heap.size, 0, none⟩ _ _ (show w.heap.size + 1 + 1 ≠ w.heap.size by omega)).trans h.rz, h.low.setCell (Nat.le_refl _) _⟩
/-- the files behind a step that is carried out; f: the file that is there -/
def chA (L : List Fa) (f : Fa) (o : Oa) : List Fa :=
  if o.k = 0 then putL ⟨o.nm, [], 0⟩ false L
  else if o.k = 1 then putL ⟨f.name, f.l ++ o.lb, f.s⟩ false (delA L o.nm)
  else if o.k = 2 then putL ⟨f.name, f.l, f.l.length⟩ false (delA L o.nm)
  else if o.k = 3 then putL ⟨o.to, f.l, f.s⟩ false (delA (delA L o.nm) o.to)
  else if o.k = 4 then delA L o.nm
  else putL ⟨f.name, f.l.take o.n.toNat, min f.s o.n.toNat⟩ false (delA L o.nm)
set_option maxRecDepth 100000 in
set_option maxHeartbeats 8000000 in
theorem rchange_0 (w : World) (X : List (Fa × Value)) (a : Option Addr) (n c : Nat) (q : Rn) (hn : X.length = n) (hX : FlsA w a X) (hnl : n ≤ 1000) (o : Oa) (ho : OpIn w o) (hk : o.k = 0) (f : Fa) :
    Calls Try.prog 48 #[rdV (.slice a n c) q, opV o] w fun r w' => ∃ a' j c' Y, r = .returned (rdV (.slice a' j c') q) ∧ FlsB X w w' a' Y ∧ Y.length = j ∧ Y.map Prod.fst = chA (X.map Prod.fst) f o ∧ Below w.heap.size w w' := by
  have HE : Hid (chA (X.map Prod.fst) f o = putL ⟨o.nm, [], 0⟩ false (X.map Prod.fst)) := if_pos hk
  rw [HE.out]
  have hC := Ch3.start w (.slice a n c) q o
  obtain ⟨W, hW⟩ : ∃ W, (((w.alloc (.cells #[.slice a n c, .int .i64 q.room, .int .i64 q.fuse, .bool q.off, .int .i64 q.steps, .int .i64 q.read] 28)).alloc (.cells #[.int .i64 o.k, .string (bs o.nm), .string (bs o.to), .slice o.P o.lb.length o.C, .int .i64 o.n, .int .i64 o.m, .slice o.K o.ks.length o.CK] 34)).alloc (.cells #[.slice none 0 0, .int .i64 0, .int .i64 0, .bool false, .int .i64 0, .int .i64 0] 28)) = W := ⟨_, rfl⟩
  have HW : Hid ((((w.alloc (.cells #[.slice a n c, .int .i64 q.room, .int .i64 q.fuse, .bool q.off, .int .i64 q.steps, .int .i64 q.read] 28)).alloc (.cells #[.int .i64 o.k, .string (bs o.nm), .string (bs o.to), .slice o.P o.lb.length o.C, .int .i64 o.n, .int .i64 o.m, .slice o.K o.ks.length o.CK] 34)).alloc (.cells #[.slice none 0 0, .int .i64 0, .int .i64 0, .bool false, .int .i64 0, .int .i64 0] 28)) = W) := hW
  rw [hW] at hC
  have HC : Hid (Ch3 w W (.slice a n c) q o) := hC
  have HN : Hid (X.length = n ∧ n ≤ 1000) := ⟨hn, hnl⟩
  have HX : Hid (FlsA W a X) := hX.keep hC.low
  have HX0 : Hid (FlsA w a X) := hX
  have HO : Hid (OpIn w o) := ho
  have HK : Hid (o.k = 0) := hk
  clear hW hC hn hX ho hk
  go_enter Try.func48, Try.ntmps48
  go_upto_region 1 with fail
  try simp only [Act.put]
  rw [HW.out]
  obtain ⟨c0, c1, c2, c3, c4, c5, c6⟩ := HC.out.op.cells
  rw [HK.out] at c0
  have d0 := HC.out.rd.cells.1
  have FZ := HC.out.rd.froz 0
  go_wp2_with (first
    | (go_at_call 49; refine (rput_any W X a n c HN.out.1 HX.out (by have := HN.out.2; omega) o.nm [] 0 none 0 0 rfl).mono ?_; rintro _ x5 ⟨a5, c5, Y, rfl, hf5, hl5, hy5, hm5, hb5⟩; have HC5 : Hid (Ch3 w x5 (.slice a n c) q o) := HC.out.keep hb5; have e0 := HC5.out.rd.cells.1; have FZ5 := HC5.out.rd.froz 0; have HS5 : Hid (Ch3 w (x5.setCell ⟨w.heap.size, 0, none⟩ (.slice a5 (n + 1) c5)) (.slice a5 (n + 1) c5) q o) := HC5.out.set _; have HF5 : Hid (RowL W.heap.size x5 a5 Y ∧ Y.length = n + 1 ∧ Mem1 X (⟨o.nm, [], 0⟩, .slice none 0 0) Y ∧ Y.map Prod.fst = putL ⟨o.nm, [], 0⟩ false (X.map Prod.fst)) := ⟨hf5, hl5, hy5, hm5⟩; clear hf5 hl5 hy5 hm5 hb5)
    | ((with_reducible refine guard_load 28 ?_); refine wpList_load_rd rfl _ rfl HS5.out.rd rfl ?_)
    | ((with_reducible refine guard_store 28 ?_); refine wpList_store_rd rfl _ _ rfl rfl HS5.out.rz (slice_one _ _ _) rfl rfl (v2 := .slice a5 (n + 1) c5) (q2 := q) ?_; intro x6 hr6 hb6 hh6 hs6; have HR6 : Hid (RdAt x6 (w.heap.size + 1 + 1) (.slice a5 (n + 1) c5) q ∧ Below w.heap.size w x6) := ⟨hr6, hb6 _ _ HS5.out.low (by omega)⟩; have HL6 : Hid (∀ k, W.heap.size ≤ k → x6.heap[k]? = x5.heap[k]?) := fun k hk => (hh6 k (by have := HC.out.rz.lt; omega)).trans (heap_setCell_other x5 ⟨w.heap.size, 0, none⟩ k _ (show k ≠ w.heap.size by have := HC.out.rz.lt; omega)); clear hr6 hb6 hh6 hs6)
    | go_in)
  have hfin0 : FlsA x6 a5 Y := (HF5.out.1.turn (fun k h1 _ => HL6.out k h1)).fls (fun e he => by
    rcases HF5.out.2.2.1 e he with h | h
    · exact (HX0.out.fv h).keep HR6.out.2
    · rw [h]; exact ⟨none, 0, rfl, Bytes.none _ _, Nat.zero_le _, Nat.zero_le _, fun _ => rfl⟩)
  have hfin : FlsB X w x6 a5 Y := ⟨hfin0, (HF5.out.1.turn (fun k h1 _ => HL6.out k h1)).mono HC.out.low.size, fun e he => by
    rcases HF5.out.2.2.1 e he with h | h
    · exact .inl ⟨e, h, rfl⟩
    · rw [h]; exact .inr (fun g hg => by cases hg)⟩
  exact bodyPost_ret (results_rd1 rfl _ _ _ rfl HR6.out.1) rfl ⟨a5, n + 1, c5, Y, rfl, hfin, HF5.out.2.1, HF5.out.2.2.2, HR6.out.2⟩
end Go.Proofs.Ytlnhhgmdajbepaa
