/- Own texts, joined: Rd1, Rd2. -/
import Derived.Test.YtbdgiecnhgiogaaK12
import Derived.Test.YtbdgiecnhgiogaaK09
namespace Go.Proofs.Ytbdgiecnhgiogaa
open Go.ChangeShapes Go.WideShapes Go.ChangeAt Go.RowKit
set_option linter.unusedVariables false
/-- the empty field -/
abbrev ZF : Value := FV 0 false 0 (.slice none 0 0)
theorem Try.zeroFd (w : World) : (zeroValue 32).run Try.prog w = .ok ZF w := by kernel_rfl
theorem rd_keyed : Maps.Keyed Try.prog 3 := Maps.int_keyed Try.underlying3
theorem rd_key {t : Int} (ht : (Lit.int .i64 t).wf = true) : keyOf Try.prog 3 (.int .i64 t) = some (.int .i64 t) := Maps.keyOf_int_mk Try.underlying3 ht
theorem look_yes {w : World} {b n : Nat} {D : DataW Value} {L : List (Fld × Value)} {t : Int} {p : Fld × Value} (hm : w.ownsMap Try.prog 3 hv b n D) (hr : Rep D L) (ht : (Lit.int .i64 t).wf = true) (hp : getT L t = some p) :
    (Instr.lookup 71 (.map (some b)) (.int .i64 t) true).run Try.prog w = .ok (.tuple #[FP p, .bool true]) w := by
  obtain ⟨v, ps, hrun, hR⟩ := hm.look_ok rd_keyed Try.underlying71 (Try.zeroFd w) (zd := .held ZF) (zp := []) rfl (rd_key ht)
  rw [hr.look, hp] at hR
  have h1 := hv_inv hR
  simp only [DataW.held.injEq] at h1
  rw [hr.hs, hp] at hrun
  rw [hrun, ← h1]
  rfl
theorem look_no {w : World} {b n : Nat} {D : DataW Value} {L : List (Fld × Value)} {t : Int} (hm : w.ownsMap Try.prog 3 hv b n D) (hr : Rep D L) (ht : (Lit.int .i64 t).wf = true) (hp : getT L t = none) :
    (Instr.lookup 71 (.map (some b)) (.int .i64 t) true).run Try.prog w = .ok (.tuple #[ZF, .bool false]) w := by
  obtain ⟨v, ps, hrun, hR⟩ := hm.look_ok rd_keyed Try.underlying71 (Try.zeroFd w) (zd := .held ZF) (zp := []) rfl (rd_key ht)
  rw [hr.look, hp] at hR
  have h1 := hv_inv hR
  simp only [DataW.held.injEq] at h1
  rw [hr.hs, hp] at hrun
  rw [hrun, ← h1]
  rfl
theorem wpList_look {ops : Array Oper} {rest : List Oper} {o : Oper} {a : Act} {w : World} {Q : Exit → Act → World → Prop} (hg : o.guard = none) (m x : Operand) (hop : o.op = Op.lookup 71 m x true) {b : Nat} {t : Int} {v : Value} (hm : a.eval m = .map (some b)) (hx : a.eval x = .int .i64 t)
    (hrun : (Instr.lookup 71 (.map (some b)) (.int .i64 t) true).run Try.prog w = .ok v w) (hK : wpList Try.prog ops Q rest (a.put o.dst v) w) : wpList Try.prog ops Q (o :: rest) a w := by
  refine wpList_plain hg fun K' hK' => ?_
  unfold Oper.wp
  simp [execOp, hop, hm, hx, hrun, Result.andThen]
  exact hK' _ _ hK
/-- what take answers, and the reader's error behind it -/
def rdV (L : List (Fld × Value)) (t : Int) (x : Bool) : Value := match getT L t with | some p => if p.1.text = x then FP p else ZF | none => ZF
def rdE (L : List (Fld × Value)) (e : Nat) (t : Int) (x : Bool) : Nat := match getT L t with | some p => if p.1.text = x then e else 33 | none => e
/-- the two boxes that take lays: its answer, the field that was found -/
theorem box_two (w : World) : ∃ W, (w.alloc (.cells #[.int .i64 0, .bool false, .int .u64 0, .slice none 0 0] 32)).alloc (.cells #[.int .i64 0, .bool false, .int .u64 0, .slice none 0 0] 32) = W ∧ FldAt W w.heap.size 0 false 0 (.slice none 0 0) ∧ FldAt W (w.heap.size + 1) 0 false 0 (.slice none 0 0) ∧ Below w.heap.size w W ∧ W.heap.size = w.heap.size + 2 := by
  refine ⟨_, rfl, ?_, ?_, (((Below.refl _ _).alloc (Nat.le_refl _) _).alloc (by simp) _), by simp⟩
  · exact (Below.heap_alloc _ _ w.heap.size (by simp)).trans (FldAt.new w 0 false 0 (.slice none 0 0))
  · have := FldAt.new (w.alloc (.cells #[.int .i64 0, .bool false, .int .u64 0, .slice none 0 0] 32)) 0 false 0 (.slice none 0 0)
    simpa using this
set_option maxRecDepth 20000 in
set_option maxHeartbeats 1000000 in
theorem take_no (t : Int) (x : Bool) (w : World) (base q b : Nat) (L : List (Fld × Value)) (e : Nat) (h : RdAt w base q b L e) (ht : (Lit.int .i64 t).wf = true) (hn : getT L t = none) :
    Calls Try.prog 34 #[.pointer (some ⟨q, 0, none⟩), .int .i64 t, .bool x] w fun r w' => r = .returned ZF ∧ Below w.heap.size w w' := by
  have hB : Below w.heap.size w (w.alloc (.cells #[.int .i64 0, .bool false, .int .u64 0, .slice none 0 0] 32)) := (Below.refl _ _).alloc (Nat.le_refl _) _
  have h1 := h.keep hB
  obtain ⟨c0, _, _, _⟩ := h1.cells
  obtain ⟨n, D, hm, hr⟩ := h1.map
  have HM : Hid (_) := hm
  have HR : Hid (Rep D L) := hr
  obtain ⟨W, hW, hf0, hf1, hbW, hsW⟩ := box_two w
  have HW : Hid (_ = W) := hW
  have HF0 : Hid (_) := hf0
  have HF1 : Hid (_) := hf1
  have HB : Hid (_) := hbW
  have HS : Hid (_) := hsW
  have T1 : Hid True := trivial
  clear h h1 hB hm hr hW hf0 hf1 hbW hsW
  go_enter Try.func34, Try.ntmps34
  go_wp2_with (first
    | (at_lookup; refine wpList_look rfl _ _ rfl rfl rfl (look_no HM.out HR.out ht hn) ?_)
    | ((with_reducible refine guard_store 32 ?_); clear T1; rw [HW.out]; refine wpList_store_fld rfl _ _ rfl (k := w.heap.size + 1) (tag2 := 0) (text2 := false) (num2 := 0) (bv2 := .slice none 0 0) HF1.out rfl rfl rfl ?_; intro w5 hf5 hos5 hk5 hs5; have HF5 : Hid (_) := (hk5 w.heap.size (by omega)).trans HF0.out; clear hf5)
    | ((with_reducible refine guard_store 32 ?_); refine wpList_store_fld rfl _ _ rfl (k := w.heap.size) (tag2 := 0) (text2 := false) (num2 := 0) (bv2 := .slice none 0 0) HF5.out rfl rfl rfl ?_; intro w6 hf6 hos6 hk6 hs6))
  exact bodyPost_ret (results_fld rfl _ _ _ rfl hf6) rfl ⟨rfl, ⟨hos6.1.trans (hos5.1.trans HB.out.os), hos6.2.1.trans (hos5.2.1.trans HB.out.tape), hos6.2.2.trans (hos5.2.2.trans HB.out.output), by rw [hs6, hs5, HS.out]; omega, fun k hk => (hk6 k (by omega)).trans ((hk5 k (by omega)).trans (HB.out.block k hk))⟩⟩
end Go.Proofs.Ytbdgiecnhgiogaa
namespace Go.Proofs.Ytbdgiecnhgiogaa
open Go.ChangeShapes Go.WideShapes Go.ChangeAt Go.RowKit
set_option linter.unusedVariables false
theorem map_blk {w : World} {b n : Nat} {D : DataW Value} (h : w.ownsMap Try.prog 3 hv b n D) : ∃ es c, w.heap[b]? = some (.map es c) := by
  obtain ⟨es, c, h1, _⟩ := h; exact ⟨es, c, h1⟩
theorem RdAt.ne {w : World} {base q b : Nat} {L : List (Fld × Value)} {e : Nat} (h : RdAt w base q b L e) : q ≠ b := by
  obtain ⟨n, D, hm, _⟩ := h.map
  obtain ⟨es, c, hb⟩ := map_blk hm
  intro hh
  have := h.blk
  rw [hh, hb] at this
  cases this
theorem take_fin {w w8 : World} {base q b n : Nat} {D : DataW Value} {L : List (Fld × Value)} {e e' : Nat} {t : Int} (h : RdAt w base q b L e) (hr : Rep D L) (hm8 : w8.ownsMap Try.prog 3 hv b n (D.del (.int .i64 t))) (hq : w8.heap[q]? = some (.cells #[.map (some b), .int .i64 (e' : Int)] 73)) (hk : Kept q b w w8) : RdAt w8 base q b (delT L t) e' := by
  refine ⟨hq, ⟨n, _, hm8, hr.del t⟩, fun p hp => own_other (h.byt p (List.mem_filter.1 hp).1) (x := q) (y := b) (fun c hc => ?_) (fun c hc => ?_) (fun k hk1 hk2 hk3 => hk.block k hk1 hk2 hk3)⟩
  · rw [h.blk] at hc; cases hc
  · obtain ⟨n2, D2, hm2, _⟩ := h.map
    obtain ⟨es, c2, hb⟩ := map_blk hm2
    rw [hb] at hc; cases hc
/-- behind the store of what was found -/
structure Got (w w5 : World) (base q b n : Nat) (D : DataW Value) (L : List (Fld × Value)) (e : Nat) (T : Int) (X : Bool) (U : Nat) (bv : Value) : Prop where
  rd : RdAt w5 base q b L e
  bel : Below w.heap.size w w5
  own : w5.ownsMap Try.prog 3 hv b n D
  res : FldAt w5 w.heap.size 0 false 0 (.slice none 0 0)
  fld : FldAt w5 (w.heap.size + 1) T X U bv
  qlt : q < w.heap.size
  blt : b < w.heap.size
theorem got_of {w W w5 : World} {base q b n : Nat} {D : DataW Value} {L : List (Fld × Value)} {e : Nat} {T : Int} {X : Bool} {U : Nat} {bv : Value} (h : RdAt w base q b L e) (hm : w.ownsMap Try.prog 3 hv b n D) (hb : Below w.heap.size w W) (hs : W.heap.size = w.heap.size + 2) (h0 : FldAt W w.heap.size 0 false 0 (.slice none 0 0))
    (hf5 : FldAt w5 (w.heap.size + 1) T X U bv) (hos : w5.os = W.os ∧ w5.tape = W.tape ∧ w5.output = W.output) (hk : ∀ j, j ≠ w.heap.size + 1 → w5.heap[j]? = W.heap[j]?) (hs5 : w5.heap.size = W.heap.size) : Got w w5 base q b n D L e T X U bv := by
  have hB5 : Below w.heap.size w w5 := ⟨hos.1.trans hb.os, hos.2.1.trans hb.tape, hos.2.2.trans hb.output, by rw [hs5, hs]; omega, fun k hk1 => (hk k (by omega)).trans (hb.block k hk1)⟩
  exact ⟨h.keep hB5, hB5, owns_same hm (hB5.block b hm.lt), (hk _ (by omega)).trans h0, hf5, lt_of_heap h.blk, hm.lt⟩
/-- behind the delete -/
structure Gone (w w7 : World) (base q b n : Nat) (D : DataW Value) (L : List (Fld × Value)) (e : Nat) (T : Int) (X : Bool) (U : Nat) (bv : Value) (t : Int) : Prop where
  own : w7.ownsMap Try.prog 3 hv b n (D.del (.int .i64 t))
  blk : w7.heap[q]? = some (.cells #[.map (some b), .int .i64 (e : Int)] 73)
  res : FldAt w7 w.heap.size 0 false 0 (.slice none 0 0)
  fld : FldAt w7 (w.heap.size + 1) T X U bv
  kep : Kept q b w w7
theorem gone_of {w w5 w7 : World} {base q b n : Nat} {D : DataW Value} {L : List (Fld × Value)} {e : Nat} {T : Int} {X : Bool} {U : Nat} {bv : Value} {t : Int} (h : Got w w5 base q b n D L e T X U bv) (hm : w7.ownsMap Try.prog 3 hv b n (D.del (.int .i64 t))) (hg : w5.grownBy w7 (some b)) : Gone w w7 base q b n D L e T X U bv t := by
  have h1 := h.rd.ne
  have h2 := h.blt
  refine ⟨hm, (hg.block q (lt_of_heap h.rd.blk) (by intro hh; exact h1 (Option.some.inj hh))).trans h.rd.blk, (hg.block _ (lt_of_heap h.res) (by intro hh; have := Option.some.inj hh; omega)).trans h.res, (hg.block _ (lt_of_heap h.fld) (by intro hh; have := Option.some.inj hh; omega)).trans h.fld, ⟨hg.os.trans h.bel.os, hg.tape.trans h.bel.tape, hg.output.trans h.bel.output, Nat.le_trans h.bel.size hg.size, fun k hk _ hkb => (hg.block k (Nat.lt_of_lt_of_le hk h.bel.size) (by intro hh; exact hkb (Option.some.inj hh))).trans (h.bel.block k hk)⟩⟩
theorem Gone.fin {w w7 w8 : World} {base q b n : Nat} {D : DataW Value} {L : List (Fld × Value)} {e e' : Nat} {T : Int} {X : Bool} {U : Nat} {bv : Value} {t : Int} (h0 : RdAt w base q b L e) (hr : Rep D L) (h : Gone w w7 base q b n D L e T X U bv t) (hq : w8.heap[q]? = some (.cells #[.map (some b), .int .i64 (e' : Int)] 73)) (hos : w8.os = w7.os ∧ w8.tape = w7.tape ∧ w8.output = w7.output) (hk : ∀ j, j ≠ w.heap.size → j ≠ q → w8.heap[j]? = w7.heap[j]?) (hs : w8.heap.size = w7.heap.size) : RdAt w8 base q b (delT L t) e' ∧ Kept q b w w8 := by
  obtain ⟨n0, D0, hm0, _⟩ := h0.map
  have hb := hm0.lt
  have hK : Kept q b w w8 := ⟨hos.1.trans h.kep.os, hos.2.1.trans h.kep.tape, hos.2.2.trans h.kep.output, by rw [hs]; exact h.kep.size, fun k hk1 h1 h2 => (hk k (by omega) h1).trans (h.kep.block k hk1 h1 h2)⟩
  exact ⟨take_fin h0 hr (owns_same h.own (hk b (by omega) h0.ne.symm)) hq hK, hK⟩
set_option maxRecDepth 20000 in
set_option maxHeartbeats 1000000 in
theorem take_yes (t : Int) (x : Bool) (w : World) (base q b : Nat) (L : List (Fld × Value)) (e : Nat) (F : Fld) (bv : Value) (h : RdAt w base q b L e) (ht : (Lit.int .i64 t).wf = true) (hp : getT L t = some (F, bv)) (hx : (F.text != x) = false) :
    Calls Try.prog 34 #[.pointer (some ⟨q, 0, none⟩), .int .i64 t, .bool x] w fun r w' => r = .returned (FV F.tag F.text F.num bv) ∧ RdAt w' base q b (delT L t) e ∧ Kept q b w w' := by
  obtain ⟨T, tx, nu, by0⟩ := F
  have hone : bv.oneCell' = true := by
    obtain ⟨a, cap, h1, _⟩ := (h.byt _ (getT_mem hp).1).shape
    simp only at h1; rw [h1]; rfl
  have hB : Below w.heap.size w (w.alloc (.cells #[.int .i64 0, .bool false, .int .u64 0, .slice none 0 0] 32)) := (Below.refl _ _).alloc (Nat.le_refl _) _
  obtain ⟨c0, _, _, _⟩ := (h.keep hB).cells
  obtain ⟨n, D, hm, hr⟩ := h.map
  have HRD : Hid (RdAt w base q b L e) := h
  have HM : Hid (w.ownsMap Try.prog 3 hv b n D) := hm
  have HR : Hid (Rep D L) := hr
  have HP : Hid (_) := hp
  obtain ⟨W, hW, hf0, hf1, hbW, hsW⟩ := box_two w
  have HW : Hid (_ = W) := hW
  have HF0 : Hid (_) := hf0
  have HF1 : Hid (_) := hf1
  have HB : Hid (_) := hbW
  have HS : Hid (_) := hsW
  have T1 : Hid True := trivial
  clear h hB hm hr hp hW hf0 hf1 hbW hsW
  cases tx <;> cases x <;> first | (exfalso; simp at hx; done) | skip
  all_goals
    go_enter Try.func34, Try.ntmps34
    go_wp2_with (first
      | (at_lookup; refine wpList_look rfl _ _ rfl rfl rfl (look_yes (World.ownsMap.alloc HM.out _) HR.out ht HP.out) ?_)
      | ((with_reducible refine guard_store 32 ?_); clear T1; rw [HW.out]; refine wpList_store_fld rfl _ _ rfl (k := w.heap.size + 1) (tag2 := T) (text2 := _) (num2 := nu) (bv2 := bv) HF1.out hone rfl rfl ?_; intro w5 hf5 hos5 hk5 hs5; have hg5 := got_of HRD.out HM.out HB.out HS.out HF0.out hf5 hos5 hk5 hs5; have HG : Hid (Got w w5 base q b n D L e T _ nu bv) := hg5; obtain ⟨d0, _, _, _⟩ := hg5.rd.cells; clear hf5 hos5 hk5 hs5 hg5)
      | (at_delete; refine wpList_delete_own _ rfl _ _ 71 3 rfl 32 rd_keyed Try.underlying71 hv b n D rfl HG.out.own _ _ rfl (rd_key ht) ?_; intro w7 hm7 ht7; have hg7 := gone_of HG.out hm7 ht7.grown; have HN : Hid (Gone w w7 base q b n D L e T _ nu bv t) := hg7; obtain ⟨_, f1, _, _⟩ := hg7.fld.cells; clear hm7 ht7 hg7)
      | ((with_reducible refine guard_load 32 ?_); refine wpList_load_fld rfl _ rfl HN.out.fld rfl ?_)
      | ((with_reducible refine guard_store 32 ?_); refine wpList_store_fld rfl _ _ rfl (k := w.heap.size) (tag2 := T) (text2 := _) (num2 := nu) (bv2 := bv) HN.out.res hone rfl rfl ?_; intro w8 hf8 hos8 hk8 hs8))
    exact bodyPost_ret (results_fld rfl _ _ _ rfl hf8) rfl ⟨rfl, HN.out.fin HRD.out HR.out ((hk8 q (by have := HG.out.qlt; omega)).trans HN.out.blk) hos8 (fun j h1 _ => hk8 j h1) hs8⟩
set_option maxRecDepth 20000 in
set_option maxHeartbeats 1000000 in
theorem take_form (t : Int) (x : Bool) (w : World) (base q b : Nat) (L : List (Fld × Value)) (e : Nat) (F : Fld) (bv : Value) (h : RdAt w base q b L e) (ht : (Lit.int .i64 t).wf = true) (hp : getT L t = some (F, bv)) (hx : (F.text != x) = true) :
    Calls Try.prog 34 #[.pointer (some ⟨q, 0, none⟩), .int .i64 t, .bool x] w fun r w' => r = .returned ZF ∧ RdAt w' base q b (delT L t) 33 ∧ Kept q b w w' := by
  obtain ⟨T, tx, nu, by0⟩ := F
  have hone : bv.oneCell' = true := by
    obtain ⟨a, cap, h1, _⟩ := (h.byt _ (getT_mem hp).1).shape
    simp only at h1; rw [h1]; rfl
  have hB : Below w.heap.size w (w.alloc (.cells #[.int .i64 0, .bool false, .int .u64 0, .slice none 0 0] 32)) := (Below.refl _ _).alloc (Nat.le_refl _) _
  obtain ⟨c0, _, _, _⟩ := (h.keep hB).cells
  obtain ⟨n, D, hm, hr⟩ := h.map
  have HRD : Hid (RdAt w base q b L e) := h
  have HM : Hid (w.ownsMap Try.prog 3 hv b n D) := hm
  have HR : Hid (Rep D L) := hr
  have HP : Hid (_) := hp
  obtain ⟨W, hW, hf0, hf1, hbW, hsW⟩ := box_two w
  have HW : Hid (_ = W) := hW
  have HF0 : Hid (_) := hf0
  have HF1 : Hid (_) := hf1
  have HB : Hid (_) := hbW
  have HS : Hid (_) := hsW
  have T1 : Hid True := trivial
  clear h hB hm hr hp hW hf0 hf1 hbW hsW
  cases tx <;> cases x <;> first | (exfalso; simp at hx; done) | skip
  all_goals
    go_enter Try.func34, Try.ntmps34
    go_wp2_with (first
      | (at_lookup; refine wpList_look rfl _ _ rfl rfl rfl (look_yes (World.ownsMap.alloc HM.out _) HR.out ht HP.out) ?_)
      | ((with_reducible refine guard_store 32 ?_); clear T1; rw [HW.out]; refine wpList_store_fld rfl _ _ rfl (k := w.heap.size + 1) (tag2 := T) (text2 := _) (num2 := nu) (bv2 := bv) HF1.out hone rfl rfl ?_; intro w5 hf5 hos5 hk5 hs5; have hg5 := got_of HRD.out HM.out HB.out HS.out HF0.out hf5 hos5 hk5 hs5; have HG : Hid (Got w w5 base q b n D L e T _ nu bv) := hg5; obtain ⟨d0, _, _, _⟩ := hg5.rd.cells; clear hf5 hos5 hk5 hs5 hg5)
      | (at_delete; refine wpList_delete_own _ rfl _ _ 71 3 rfl 32 rd_keyed Try.underlying71 hv b n D rfl HG.out.own _ _ rfl (rd_key ht) ?_; intro w7 hm7 ht7; have hg7 := gone_of HG.out hm7 ht7.grown; have HN : Hid (Gone w w7 base q b n D L e T _ nu bv t) := hg7; obtain ⟨_, f1, _, _⟩ := hg7.fld.cells; have hq1 : w7.cell? ⟨q, 1, none⟩ = some (.int .i64 (e : Int)) := (by rw [cell_of_row _ _ 1 _ _ _ hg7.blk]; rfl); have hq2 : w7.frozen? ⟨q, 1, none⟩ = false := frozen_of_row _ _ 1 _ _ hg7.blk; clear hm7 ht7 hg7)
      | ((with_reducible refine guard_store 32 ?_); refine wpList_store_fld rfl _ _ rfl (k := w.heap.size) (tag2 := 0) (text2 := false) (num2 := 0) (bv2 := .slice none 0 0) (show FldAt (w7.setCell ⟨q, 1, none⟩ (.int .i64 33)) w.heap.size 0 false 0 (.slice none 0 0) from (heap_setCell_other w7 ⟨q, 1, none⟩ w.heap.size _ (by have := HG.out.qlt; show w.heap.size ≠ q; omega)).trans HN.out.res) rfl rfl rfl ?_; intro w8 hf8 hos8 hk8 hs8))
    refine bodyPost_ret (results_fld rfl _ _ _ rfl hf8) rfl ⟨rfl, HN.out.fin HRD.out HR.out ((hk8 q (by have := HG.out.qlt; omega)).trans ?_) ⟨hos8.1, hos8.2.1, hos8.2.2⟩ (fun j h1 h2 => (hk8 j h1).trans (heap_setCell_other w7 ⟨q, 1, none⟩ j _ h2)) (by rw [hs8]; simp)⟩
    rw [heap_setCell_same w7 q 1 _ _ _ HN.out.blk]; rfl
/-- take, every way -/
theorem take_any (t : Int) (x : Bool) (w : World) (base q b : Nat) (L : List (Fld × Value)) (e : Nat) (h : RdAt w base q b L e) (ht : (Lit.int .i64 t).wf = true) :
    Calls Try.prog 34 #[.pointer (some ⟨q, 0, none⟩), .int .i64 t, .bool x] w fun r w' => r = .returned (rdV L t x) ∧ RdAt w' base q b (delT L t) (rdE L e t x) ∧ Kept q b w w' := by
  rcases hp : getT L t with _ | ⟨F, bv⟩
  · have e1 : rdV L t x = ZF := by unfold rdV; rw [hp]
    have e2 : rdE L e t x = e := by unfold rdE; rw [hp]
    rw [e1, e2, delT_none hp]
    refine (take_no t x w base q b L e h ht hp).mono ?_
    rintro r w' ⟨rfl, hb⟩
    exact ⟨rfl, h.keep hb, ⟨hb.os, hb.tape, hb.output, hb.size, fun k hk _ _ => hb.block k hk⟩⟩
  · by_cases hx : F.text = x
    · have e1 : rdV L t x = FV F.tag F.text F.num bv := by unfold rdV; rw [hp]; exact if_pos hx
      have e2 : rdE L e t x = e := by unfold rdE; rw [hp]; exact if_pos hx
      rw [e1, e2]
      exact take_yes t x w base q b L e F bv h ht hp (by simp [hx])
    · have e1 : rdV L t x = ZF := by unfold rdV; rw [hp]; exact if_neg hx
      have e2 : rdE L e t x = 33 := by unfold rdE; rw [hp]; exact if_neg hx
      rw [e1, e2]
      exact take_form t x w base q b L e F bv h ht hp (by simp [hx])
end Go.Proofs.Ytbdgiecnhgiogaa
