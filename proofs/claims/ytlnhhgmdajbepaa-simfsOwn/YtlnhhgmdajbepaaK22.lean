/- Own texts, joined: Rdk. -/
import Derived.Test.YtlnhhgmdajbepaaK21
import Derived.Laws.ResultCell
namespace Go.Proofs.Ytlnhhgmdajbepaa
open Go.ChangeShapes Go.WideShapes Go.ChangeAt Go.RowKit
set_option linter.unusedVariables false
set_option linter.unusedSimpArgs false
/-- the numbers of a disk -/
structure Rn where
  room : Int
  fuse : Int
  off : Bool
  steps : Int
  read : Int
def Ak.rn (A : Ak) : Rn := ⟨A.room, A.fuse, A.off, A.steps, A.read⟩
abbrev rdV (v : Value) (q : Rn) : Value := .agg #[v, .int .i64 q.room, .int .i64 q.fuse, .bool q.off, .int .i64 q.steps, .int .i64 q.read]
def RdAt (w : World) (k : Nat) (v : Value) (q : Rn) : Prop := w.heap[k]? = some (.cells #[v, .int .i64 q.room, .int .i64 q.fuse, .bool q.off, .int .i64 q.steps, .int .i64 q.read] 28)
theorem Try.infoRd : (Try.prog.info? 28).map (·.size) = some 6 := by kernel_rfl
theorem RdAt.cells {w : World} {k : Nat} {v : Value} {q : Rn} (h : RdAt w k v q) : w.cell? ⟨k, 0, none⟩ = some v ∧ w.cell? ⟨k, 1, none⟩ = some (.int .i64 q.room) ∧ w.cell? ⟨k, 2, none⟩ = some (.int .i64 q.fuse) ∧ w.cell? ⟨k, 3, none⟩ = some (.bool q.off) ∧ w.cell? ⟨k, 4, none⟩ = some (.int .i64 q.steps) ∧ w.cell? ⟨k, 5, none⟩ = some (.int .i64 q.read) :=
  ⟨by rw [cell_of_row _ _ 0 _ _ _ h]; rfl, by rw [cell_of_row _ _ 1 _ _ _ h]; rfl, by rw [cell_of_row _ _ 2 _ _ _ h]; rfl, by rw [cell_of_row _ _ 3 _ _ _ h]; rfl, by rw [cell_of_row _ _ 4 _ _ _ h]; rfl, by rw [cell_of_row _ _ 5 _ _ _ h]; rfl⟩
theorem RdAt.keep {w w' : World} {k : Nat} {v : Value} {q : Rn} (h : RdAt w k v q) (hb : Below w.heap.size w w') : RdAt w' k v q := (hb.block k (lt_of_heap h)).trans h
theorem RdAt.new (w : World) (v : Value) (q : Rn) : RdAt (w.alloc (.cells #[v, .int .i64 q.room, .int .i64 q.fuse, .bool q.off, .int .i64 q.steps, .int .i64 q.read] 28)) w.heap.size v q := heap_alloc_new w _
theorem RdAt.loadVar {w : World} {k : Nat} {v : Value} {q : Rn} (h : RdAt w k v q) : (Go.loadVar 28 ⟨k, 0, none⟩).run Try.prog w = .ok (rdV v q) w :=
  run_loadVar_row _ _ _ _ _ _ _ h Try.underlying28 rfl Try.infoRd
theorem RdAt.load {w : World} {k : Nat} {v : Value} {q : Rn} (h : RdAt w k v q) : (Instr.loadAt 28 (.pointer (some ⟨k, 0, none⟩))).run Try.prog w = .ok (rdV v q) w := by
  simp only [Instr.loadAt, Instr.sureAddr, Sem.run_bind, Sem.run_pure, Result.andThen_ok, h.loadVar]
theorem rd_one (q : Rn) {v : Value} (hv : v.oneCell' = true) : (#[v, .int .i64 q.room, .int .i64 q.fuse, .bool q.off, .int .i64 q.steps, .int .i64 q.read] : Array Value).all (·.oneCell') = true := by
  rw [← Array.all_toList]
  show (v.oneCell' && (true && (true && (true && (true && (true && true)))))) = true
  rw [hv]
  rfl
theorem RdAt.store {w : World} {k : Nat} {v v2 : Value} {q q2 : Rn} (h : RdAt w k v q) (hv : v2.oneCell' = true) : ∃ w2, (Instr.storeAt 28 (.pointer (some ⟨k, 0, none⟩)) (rdV v2 q2)).run Try.prog w = .ok () w2 ∧ RdAt w2 k v2 q2 ∧ (∀ B a, Below B a w → B ≤ k → Below B a w2) ∧ (∀ j, j ≠ k → w2.heap[j]? = w.heap[j]?) ∧ w2.heap.size = w.heap.size := by
  refine ⟨w.setRow k #[v2, .int .i64 q2.room, .int .i64 q2.fuse, .bool q2.off, .int .i64 q2.steps, .int .i64 q2.read], ?_, ?_, fun B a hb hB => ⟨hb.os, hb.tape, hb.output, ?_, fun j hj => ?_⟩, fun j hj => ?_, ?_⟩
  · have h1 := run_storeVar_row w k 28 28 #[v, .int .i64 q.room, .int .i64 q.fuse, .bool q.off, .int .i64 q.steps, .int .i64 q.read] #[v2, .int .i64 q2.room, .int .i64 q2.fuse, .bool q2.off, .int .i64 q2.steps, .int .i64 q2.read] h Try.infoRd rfl (rd_one q2 hv)
    simp only [Instr.storeAt, Instr.sureAddr, Sem.run_bind, Sem.run_pure, Result.andThen_ok]
    exact h1
  · unfold RdAt at h ⊢
    simp [World.setRow, Array.getElem?_modify, h]
  · have := hb.size; simp [World.setRow]; exact this
  · rw [← hb.block j hj]
    simp only [World.setRow, Array.getElem?_modify]
    rw [if_neg (by omega)]
  · simp only [World.setRow, Array.getElem?_modify]
    rw [if_neg (Ne.symm hj)]
  · simp [World.setRow]
theorem wpList_load_rd {ops : Array Oper} {rest : List Oper} {o : Oper} {a : Act} {w : World} {Q : Exit → Act → World → Prop} (hgd : o.guard = none) (x : Operand) (ho : o.op = .load 28 x)
    {k : Nat} {v : Value} {q : Rn} (hL : RdAt w k v q) (hx : a.eval x = .pointer (some ⟨k, 0, none⟩)) (h : wpList Try.prog ops Q rest (a.put o.dst (rdV v q)) w) : wpList Try.prog ops Q (o :: rest) a w :=
  wpList_plain hgd fun _ hK => by
    unfold Oper.wp execOp
    simp only [ho, hx, Sem.run_bind, Sem.run_pure, Result.andThen_ok, hL.load]
    exact hK _ _ h
theorem wpList_store_rd {ops : Array Oper} {rest : List Oper} {o : Oper} {a : Act} {w : World} {Q : Exit → Act → World → Prop} (hgd : o.guard = none) (x y : Operand) (ho : o.op = .store 28 x y) (hd : o.dst = none)
    {k : Nat} {v v2 : Value} {q q2 : Rn} (hL : RdAt w k v q) (hv : v2.oneCell' = true) (hx : a.eval x = .pointer (some ⟨k, 0, none⟩)) (hy : a.eval y = rdV v2 q2)
    (h : ∀ w2, RdAt w2 k v2 q2 → (∀ B a, Below B a w → B ≤ k → Below B a w2) → (∀ j, j ≠ k → w2.heap[j]? = w.heap[j]?) → w2.heap.size = w.heap.size → wpList Try.prog ops Q rest a w2) : wpList Try.prog ops Q (o :: rest) a w :=
  wpList_plain hgd fun _ hK => by
    obtain ⟨w2, h1, h2, h3, h4, h5⟩ := hL.store (q2 := q2) hv
    unfold Oper.wp execOp
    simp only [ho, hx, hy, Sem.run_bind, Sem.run_pure, Result.andThen_ok, h1]
    refine hK _ _ ?_
    rw [hd]
    exact h w2 h2 h3 h4 h5
theorem step_store_rd {ops : Array Oper} {o : Oper} {a : Act} {w : World} {K : Act → World → Prop} {Q : Exit → Act → World → Prop} {X : Prop} (hgd : o.guard = none) (x y : Operand) (ho : o.op = .store 28 x y) (hd : o.dst = none)
    {k : Nat} {v v2 : Value} {q q2 : Rn} (hL : RdAt w k v q) (hv : v2.oneCell' = true) (hx : a.eval x = .pointer (some ⟨k, 0, none⟩)) (hy : a.eval y = rdV v2 q2)
    (h : ∀ w2, RdAt w2 k v2 q2 → (∀ B a, Below B a w → B ≤ k → Below B a w2) → (∀ j, j ≠ k → w2.heap[j]? = w.heap[j]?) → w2.heap.size = w.heap.size → K a w2) :
    if Region.wanted o (yielded ops a.tmps) = true then Oper.wp Try.prog o a w K Q else X := by
  have hw : Region.wanted o (yielded ops a.tmps) = true := by simp [Region.wanted, hgd]
  rw [if_pos hw]
  obtain ⟨w2, h1, h2, h3, h4, h5⟩ := hL.store (q2 := q2) hv
  unfold Oper.wp execOp
  simp only [ho, hx, hy, Sem.run_bind, Sem.run_pure, Result.andThen_ok, h1]
  have hp : a.put o.dst undef = a := by rw [hd]; rfl
  exact (show K (a.put o.dst undef) w2 from by rw [hp]; exact h w2 h2 h3 h4 h5)
theorem results_rd1 {fn : Func} {p : Tmp} (h : fn.results = #[.cell p 28]) (tmps : Array Value) (w : World) (k : Nat) {v : Value} {q : Rn} (hp : tmps.getD p undef = .pointer (some ⟨k, 0, none⟩)) (hl : RdAt w k v q) :
    (results fn tmps).run Try.prog w = .ok (rdV v q) w := by
  simp only [Array.getD_eq_getD_getElem?] at hp
  simp [results, h, hp, asAddr, hl.loadVar]
theorem results_rd2 {fn : Func} {p t : Tmp} (h : fn.results = #[.cell p 28, .tmp t]) (tmps : Array Value) (w : World) (k : Nat) {v : Value} {q : Rn} (hp : tmps.getD p undef = .pointer (some ⟨k, 0, none⟩)) (hl : RdAt w k v q) :
    (results fn tmps).run Try.prog w = .ok (.tuple #[rdV v q, tmps.getD t undef]) w := by
  simp only [Array.getD_eq_getD_getElem?] at hp
  simp [results, h, hp, asAddr, hl.loadVar]
theorem results_rd4 {fn : Func} {p t u x : Tmp} (h : fn.results = #[.cell p 28, .tmp t, .tmp u, .tmp x]) (tmps : Array Value) (w : World) (k : Nat) {v : Value} {q : Rn} (hp : tmps.getD p undef = .pointer (some ⟨k, 0, none⟩)) (hl : RdAt w k v q) :
    (results fn tmps).run Try.prog w = .ok (.tuple #[rdV v q, tmps.getD t undef, tmps.getD u undef, tmps.getD x undef]) w := by
  simp only [Array.getD_eq_getD_getElem?] at hp
  simp [results, h, hp, asAddr, hl.loadVar]
/-- files as the reference holds them: with what their bytes may hold -/
def FvIn (w : World) (p : Fa × Value) : Prop := ∃ a2 c2, p.2 = .slice a2 p.1.l.length c2 ∧ Bytes w a2 p.1.l ∧ p.1.l.length ≤ maxLen ∧ p.1.l.length ≤ c2 ∧ (a2 = none → c2 = 0)
theorem FvIn.keep {w w' : World} {p : Fa × Value} (h : FvIn w p) (hb : Below w.heap.size w w') : FvIn w' p := by
  obtain ⟨a2, c2, h1, h2, h3⟩ := h
  exact ⟨a2, c2, h1, h2.keep hb, h3⟩
theorem FvIn.one {w : World} {p : Fa × Value} (h : FvIn w p) : p.2.oneCell' = true := by
  obtain ⟨a2, c2, h1, _⟩ := h
  rw [h1]; exact slice_one _ _ _
set_option maxRecDepth 100000 in
set_option maxHeartbeats 4000000 in
theorem rat_any (w : World) (X : List (Fa × Value)) (a : Option Addr) (n c : Nat) (q : Rn) (hn : X.length = n) (hX : FlsA w a X) (hnl : n ≤ 16777216) (nm : List UInt8) (hl : nm.length ≤ 281474976710656) :
    Calls Try.prog 47 #[rdV (.slice a n c) q, .string (bs nm)] w fun r w' => ∃ z : Int, r = .returned (.int .i64 z) ∧ Below w.heap.size w w' ∧ ((z = -1 ∧ getA (X.map Prod.fst) nm = none) ∨ ∃ (i : Nat) (f : Fa), z = (i : Int) ∧ i < n ∧ (X.map Prod.fst)[i]? = some f ∧ getA (X.map Prod.fst) nm = some f ∧ f.name = nm) := by
  obtain ⟨qr, qf, qo, qs, qd⟩ := q
  have HX : Hid (FlsA w a X) := hX
  have HN : Hid (X.length = n) := hn
  have hnI : (n : Int) ≤ 16777216 := by omega
  have hn0 : (0 : Int) ≤ (n : Int) := by omega
  have hr0 := RdAt.new w (.slice a n c) ⟨qr, qf, qo, qs, qd⟩
  have hb0 : Below w.heap.size w (w.alloc (.cells #[.slice a n c, .int .i64 qr, .int .i64 qf, .bool qo, .int .i64 qs, .int .i64 qd] 28)) := (Below.refl _ _).alloc (Nat.le_refl _) _
  have c0 := hr0.cells.1
  have HR0 : Hid (Below w.heap.size w (w.alloc (.cells #[.slice a n c, .int .i64 qr, .int .i64 qf, .bool qo, .int .i64 qs, .int .i64 qd] 28)) ∧ RdAt (w.alloc (.cells #[.slice a n c, .int .i64 qr, .int .i64 qf, .bool qo, .int .i64 qs, .int .i64 qd] 28)) w.heap.size (.slice a n c) ⟨qr, qf, qo, qs, qd⟩) := ⟨hb0, hr0⟩
  clear hr0 hb0 hX hn
  go_enter Try.func47, Try.ntmps47
  go_wp2
  go_loopw [9] (fun v9 wr => ∃ k : Nat, v9 = .int .i64 (k : Int) ∧ k ≤ n ∧ Hid (Below w.heap.size w wr ∧ RdAt wr w.heap.size (.slice a n c) ⟨qr, qf, qo, qs, qd⟩ ∧ getA ((X.map Prod.fst).take k) nm = none)) (fun v9 _ => n - (intOf v9).toNat)
  case atStart => exact ⟨0, rfl, Nat.zero_le _, HR0.out.1, HR0.out.2, rfl⟩
  case round =>
    obtain ⟨k, rfl, hk, HRR⟩ := hrel
    have cr0 := HRR.out.2.1.cells.1
    by_cases hkn : k < n
    · obtain ⟨⟨f, bv⟩, hp⟩ : ∃ p, X[k]? = some p := ⟨_, List.getElem?_eq_getElem (by rw [HN.out]; exact hkn)⟩
      have hf : (X.map Prod.fst)[k]? = some f := by rw [List.getElem?_map, hp]; rfl
      obtain ⟨b, off, rfl, hlt, d0, d1, d2⟩ := (HX.out.keep HRR.out.1).at k _ hp
      simp only at d0 d1 d2
      obtain ⟨fn, hfn⟩ : ∃ fn, f.name = fn := ⟨_, rfl⟩
      rw [hfn] at d0
      have HF : Hid ((X.map Prod.fst)[k]? = some f ∧ f.name = fn) := ⟨hf, hfn⟩
      have hkI : (k : Int) < (n : Int) := by omega
      have hk0 : (0 : Int) ≤ (k : Int) := by omega
      obtain ⟨hfl, hfe⟩ := List.getElem?_eq_some_iff.1 hf
      have HT : Hid (getA ((X.map Prod.fst).take (k + 1)) nm = if fn = nm then some f else none) := by
        show _ = _
        rw [List.take_succ_eq_append_getElem hfl, hfe]
        have h1 := HRR.out.2.2
        unfold getA at h1 ⊢
        rw [List.find?_append, h1, List.find?_cons]
        by_cases e : fn = nm
        · rw [if_pos e, show (f.name == nm) = true from by rw [hfn, e]; simp]; rfl
        · rw [if_neg e, show (f.name == nm) = false from by rw [hfn]; simpa using e]; rfl
      have HG : Hid (fn = nm → getA (X.map Prod.fst) nm = some f) := fun e => by
        have h1 := HT.out
        rw [if_pos e] at h1
        unfold getA at h1 ⊢
        conv => lhs; rw [← List.take_append_drop (k + 1) (X.map Prod.fst)]
        rw [List.find?_append, h1]
        rfl
      clear hp hf hfn hfl hfe d1 d2
      by_cases e : fn = nm
      · have heq : (fn == nm) = true := by rw [e]; simp
        have HE : Hid (fn = nm) := e
        clear e
        go_wp2
        go_ret
        exact ⟨(k : Int), rfl, HRR.out.1, .inr ⟨k, f, rfl, hkn, HF.out.1, HG.out HE.out, HF.out.2.trans HE.out⟩⟩
      · have heq : (fn == nm) = false := by simpa using e
        have HE : Hid (¬ fn = nm) := e
        clear e
        go_wp2
        go_roundw
        case rel => exact ⟨k + 1, by go_num, by omega, HRR.out.1, HRR.out.2.1, by rw [HT.out, if_neg HE.out]⟩
        case measure => simp [intOf]; omega
    · obtain rfl : k = n := by omega
      have HFIN : Hid (getA (X.map Prod.fst) nm = none) := by
        have h1 := HRR.out.2.2
        rw [List.take_of_length_le (by rw [List.length_map, HN.out]; exact Nat.le_refl _)] at h1
        exact h1
      clear hkn hk
      go_wp2
      go_ret
      exact ⟨-1, rfl, HRR.out.1, .inl ⟨rfl, HFIN.out⟩⟩
set_option maxRecDepth 100000 in
set_option maxHeartbeats 4000000 in
theorem rused_any (w : World) (X : List (Fa × Value)) (a : Option Addr) (n c : Nat) (q : Rn) (hn : X.length = n) (hX : FlsA w a X) (hnl : n ≤ 16777216) (hu : usedA (X.map Prod.fst) ≤ 67108864) :
    Calls Try.prog 44 #[rdV (.slice a n c) q] w fun r w' => r = .returned (.int .i64 (usedA (X.map Prod.fst) : Nat)) ∧ Below w.heap.size w w' := by
  obtain ⟨qr, qf, qo, qs, qd⟩ := q
  have HX : Hid (FlsA w a X) := hX
  have HN : Hid (X.length = n ∧ usedA (X.map Prod.fst) ≤ 67108864) := ⟨hn, hu⟩
  have hnI : (n : Int) ≤ 16777216 := by omega
  have hn0 : (0 : Int) ≤ (n : Int) := by omega
  have hr0 := RdAt.new w (.slice a n c) ⟨qr, qf, qo, qs, qd⟩
  have hb0 : Below w.heap.size w (w.alloc (.cells #[.slice a n c, .int .i64 qr, .int .i64 qf, .bool qo, .int .i64 qs, .int .i64 qd] 28)) := (Below.refl _ _).alloc (Nat.le_refl _) _
  have c0 := hr0.cells.1
  have HR0 : Hid (Below w.heap.size w (w.alloc (.cells #[.slice a n c, .int .i64 qr, .int .i64 qf, .bool qo, .int .i64 qs, .int .i64 qd] 28)) ∧ RdAt (w.alloc (.cells #[.slice a n c, .int .i64 qr, .int .i64 qf, .bool qo, .int .i64 qs, .int .i64 qd] 28)) w.heap.size (.slice a n c) ⟨qr, qf, qo, qs, qd⟩) := ⟨hb0, hr0⟩
  clear hr0 hb0 hX hn hu
  go_enter Try.func44, Try.ntmps44
  go_wp2
  go_loopw [3, 8] (fun v3 v8 wr => ∃ (k U : Nat), v8 = .int .i64 (k : Int) ∧ v3 = .int .i64 (U : Int) ∧ k ≤ n ∧ Hid (Below w.heap.size w wr ∧ RdAt wr w.heap.size (.slice a n c) ⟨qr, qf, qo, qs, qd⟩ ∧ usedA ((X.map Prod.fst).take k) = U)) (fun _ v8 _ => n - (intOf v8).toNat)
  case atStart => exact ⟨0, 0, rfl, rfl, Nat.zero_le _, HR0.out.1, HR0.out.2, rfl⟩
  case round =>
    obtain ⟨k, U, rfl, rfl, hk, HRR⟩ := hrel
    have cr0 := HRR.out.2.1.cells.1
    have hU : (U : Int) ≤ 67108864 := by
      have h1 := usedA_take_le (X.map Prod.fst) k
      have h2 := HN.out.2
      rw [HRR.out.2.2] at h1
      omega
    have hU0 : (0 : Int) ≤ (U : Int) := by omega
    by_cases hkn : k < n
    · obtain ⟨⟨f, bv⟩, hp⟩ : ∃ p, X[k]? = some p := ⟨_, List.getElem?_eq_getElem (by rw [HN.out.1]; exact hkn)⟩
      have hf : (X.map Prod.fst)[k]? = some f := by rw [List.getElem?_map, hp]; rfl
      obtain ⟨b, off, rfl, hlt, d0, d1, d2⟩ := (HX.out.keep HRR.out.1).at k _ hp
      obtain ⟨a2, c2, e2, _⟩ := HX.out.byt _ (List.mem_of_getElem? hp)
      simp only at d0 d1 d2 e2
      subst e2
      obtain ⟨m, hm⟩ : ∃ m, f.l.length = m := ⟨_, rfl⟩
      rw [hm] at d1
      have ht := usedA_take (X.map Prod.fst) k f hf
      rw [HRR.out.2.2, hm] at ht
      have HT : Hid (usedA ((X.map Prod.fst).take (k + 1)) = U + m) := ht
      have hmI : (U : Int) + (m : Int) ≤ 67108864 := by
        have h1 := usedA_take_le (X.map Prod.fst) (k + 1)
        have h2 := HN.out.2
        rw [ht] at h1
        omega
      have hm0 : (0 : Int) ≤ (m : Int) := by omega
      have hkI : (k : Int) < (n : Int) := by omega
      have hk0 : (0 : Int) ≤ (k : Int) := by omega
      clear hp hf d0 d2 hm ht
      go_wp2
      go_roundw
      case rel => exact ⟨k + 1, U + m, by go_num, by go_num, by omega, HRR.out.1, HRR.out.2.1, HT.out⟩
      case measure => simp [intOf]; omega
    · obtain rfl : k = n := by omega
      have HFIN : Hid (usedA (X.map Prod.fst) = U) := by
        have h1 := HRR.out.2.2
        rw [List.take_of_length_le (by rw [List.length_map, HN.out.1]; exact Nat.le_refl _)] at h1
        exact h1
      clear hkn hk
      go_wp2
      go_ret
      exact ⟨by rw [HFIN.out]; rfl, HRR.out.1⟩
set_option maxRecDepth 100000 in
set_option maxHeartbeats 4000000 in
theorem rnew_any (room : Int) (w : World) (h1 : -9223372036854775808 ≤ room) (h2 : room ≤ 9223372036854775807) :
    Calls Try.prog 15 #[.int .i64 room] w fun r w' => r = .returned (rdV (.slice none 0 0) (newD room).ab.rn) ∧ Below w.heap.size w w' := by
  have hz := RdAt.new w (.slice none 0 0) ⟨0, 0, false, 0, 0⟩
  have HZ : Hid (RdAt (w.alloc (.cells #[.slice none 0 0, .int .i64 0, .int .i64 0, .bool false, .int .i64 0, .int .i64 0] 28)) w.heap.size (.slice none 0 0) ⟨0, 0, false, 0, 0⟩ ∧ Below w.heap.size w (w.alloc (.cells #[.slice none 0 0, .int .i64 0, .int .i64 0, .bool false, .int .i64 0, .int .i64 0] 28))) := ⟨hz, (Below.refl _ _).alloc (Nat.le_refl _) _⟩
  have HE : Hid ((newD room).ab.rn = ⟨if room < 0 then 0 else if 67108864 < room then 67108864 else room, 0, false, 0, 0⟩) := by
    show _ = _
    rfl
  rw [HE.out]
  clear hz
  by_cases e1 : room < 0
  · rw [if_pos e1]
    go_enter Try.func15, Try.ntmps15
    go_wp2_with (first
      | ((with_reducible refine guard_store 28 ?_); refine wpList_store_rd rfl _ _ rfl rfl HZ.out.1 rfl rfl rfl (v2 := .slice none 0 0) (q2 := ⟨0, 0, false, 0, 0⟩) ?_; intro x2 hr2 hb2 _ _; have HR2 : Hid (RdAt x2 w.heap.size (.slice none 0 0) ⟨0, 0, false, 0, 0⟩ ∧ Below w.heap.size w x2) := ⟨hr2, hb2 _ _ HZ.out.2 (Nat.le_refl _)⟩; clear hr2 hb2)
      | go_in)
    exact bodyPost_ret (results_rd1 rfl _ _ _ rfl HR2.out.1) rfl ⟨rfl, HR2.out.2⟩
  · rw [if_neg e1]
    by_cases e2 : 67108864 < room
    · rw [if_pos e2]
      go_enter Try.func15, Try.ntmps15
      go_wp2_with (first
        | ((with_reducible refine guard_store 28 ?_); refine wpList_store_rd rfl _ _ rfl rfl HZ.out.1 rfl rfl rfl (v2 := .slice none 0 0) (q2 := ⟨67108864, 0, false, 0, 0⟩) ?_; intro x2 hr2 hb2 _ _; have HR2 : Hid (RdAt x2 w.heap.size (.slice none 0 0) ⟨67108864, 0, false, 0, 0⟩ ∧ Below w.heap.size w x2) := ⟨hr2, hb2 _ _ HZ.out.2 (Nat.le_refl _)⟩; clear hr2 hb2)
        | go_in)
      exact bodyPost_ret (results_rd1 rfl _ _ _ rfl HR2.out.1) rfl ⟨rfl, HR2.out.2⟩
    · rw [if_neg e2]
      go_enter Try.func15, Try.ntmps15
      go_wp2_with (first
        | ((with_reducible refine guard_store 28 ?_); refine wpList_store_rd rfl _ _ rfl rfl HZ.out.1 rfl rfl rfl (v2 := .slice none 0 0) (q2 := ⟨room, 0, false, 0, 0⟩) ?_; intro x2 hr2 hb2 _ _; have HR2 : Hid (RdAt x2 w.heap.size (.slice none 0 0) ⟨room, 0, false, 0, 0⟩ ∧ Below w.heap.size w x2) := ⟨hr2, hb2 _ _ HZ.out.2 (Nat.le_refl _)⟩; clear hr2 hb2)
        | go_in)
      exact bodyPost_ret (results_rd1 rfl _ _ _ rfl HR2.out.1) rfl ⟨rfl, HR2.out.2⟩
end Go.Proofs.Ytlnhhgmdajbepaa
