/- Own texts, joined: Rd2, Rd3, Rd4. -/
import Derived.Test.YtfdaefhamoeaiaaK35
import Derived.Test.YtfdaefhamoeaiaaK30
import Derived.Test.YtfdaefhamoeaiaaK28
import Derived.Test.YtfdaefhamoeaiaaK27
namespace Go.Proofs.Ytfdaefhamoeaiaa
open Go.ChangeShapes Go.WideShapes Go.ChangeAt Go.RowKit
set_option linter.unusedVariables false
theorem map_blk {w : World} {b n : Nat} {D : DataW Value} (h : w.ownsMap Try.prog 3 hv b n D) : ∃ es c, w.heap[b]? = some (.map es c) := by
  obtain ⟨es, c, h1, _⟩ := h; exact ⟨es, c, h1⟩
theorem RdAt.ne {w : World} {base q b : Nat} {L : List (Fld × Value)} {e : Nat} (h : RdAt w base q b L e) : q ≠ b := by
  obtain ⟨n, D, hm, _⟩ := h.map
  obtain ⟨es, c, hb⟩ := map_blk hm
  intro hh
  have := h.blk
  rw [hh, hb] at this
  cases this
theorem take_fin {w w8 : World} {base q b n : Nat} {D : DataW Value} {L : List (Fld × Value)} {e e' : Nat} {t : Int} (h : RdAt w base q b L e) (hr : Rep D L) (hm8 : w8.ownsMap Try.prog 3 hv b n (D.del (.int .i64 t))) (hq : w8.heap[q]? = some (.cells #[.map (some b), .int .i64 (e' : Int)] 78)) (hk : Kept q b w w8) : RdAt w8 base q b (delT L t) e' := by
  refine ⟨hq, ⟨n, _, hm8, hr.del t⟩, fun p hp => own_other (h.byt p (List.mem_filter.1 hp).1) (x := q) (y := b) (fun c hc => ?_) (fun c hc => ?_) (fun k hk1 hk2 hk3 => hk.block k hk1 hk2 hk3)⟩
  · rw [h.blk] at hc; cases hc
  · obtain ⟨n2, D2, hm2, _⟩ := h.map
    obtain ⟨es, c2, hb⟩ := map_blk hm2
    rw [hb] at hc; cases hc
/-- behind the store of what was found -/
structure Got (w w5 : World) (base q b n : Nat) (D : DataW Value) (L : List (Fld × Value)) (e : Nat) (T : Int) (X : Bool) (U : Nat) (bv : Value) : Prop where
  rd : RdAt w5 base q b L e
  bel : Below w.heap.size w w5
  own : w5.ownsMap Try.prog 3 hv b n D
  res : FldAt w5 w.heap.size 0 false 0 (.slice none 0 0)
  fld : FldAt w5 (w.heap.size + 1) T X U bv
  qlt : q < w.heap.size
  blt : b < w.heap.size
theorem got_of {w W w5 : World} {base q b n : Nat} {D : DataW Value} {L : List (Fld × Value)} {e : Nat} {T : Int} {X : Bool} {U : Nat} {bv : Value} (h : RdAt w base q b L e) (hm : w.ownsMap Try.prog 3 hv b n D) (hb : Below w.heap.size w W) (hs : W.heap.size = w.heap.size + 2) (h0 : FldAt W w.heap.size 0 false 0 (.slice none 0 0))
    (hf5 : FldAt w5 (w.heap.size + 1) T X U bv) (hos : w5.os = W.os ∧ w5.tape = W.tape ∧ w5.output = W.output) (hk : ∀ j, j ≠ w.heap.size + 1 → w5.heap[j]? = W.heap[j]?) (hs5 : w5.heap.size = W.heap.size) : Got w w5 base q b n D L e T X U bv := by
  have hB5 : Below w.heap.size w w5 := ⟨hos.1.trans hb.os, hos.2.1.trans hb.tape, hos.2.2.trans hb.output, by rw [hs5, hs]; omega, fun k hk1 => (hk k (by omega)).trans (hb.block k hk1)⟩
  exact ⟨h.keep hB5, hB5, owns_same hm (hB5.block b hm.lt), (hk _ (by omega)).trans h0, hf5, lt_of_heap h.blk, hm.lt⟩
/-- behind the delete -/
structure Gone (w w7 : World) (base q b n : Nat) (D : DataW Value) (L : List (Fld × Value)) (e : Nat) (T : Int) (X : Bool) (U : Nat) (bv : Value) (t : Int) : Prop where
  own : w7.ownsMap Try.prog 3 hv b n (D.del (.int .i64 t))
  blk : w7.heap[q]? = some (.cells #[.map (some b), .int .i64 (e : Int)] 78)
  res : FldAt w7 w.heap.size 0 false 0 (.slice none 0 0)
  fld : FldAt w7 (w.heap.size + 1) T X U bv
  kep : Kept q b w w7
theorem gone_of {w w5 w7 : World} {base q b n : Nat} {D : DataW Value} {L : List (Fld × Value)} {e : Nat} {T : Int} {X : Bool} {U : Nat} {bv : Value} {t : Int} (h : Got w w5 base q b n D L e T X U bv) (hm : w7.ownsMap Try.prog 3 hv b n (D.del (.int .i64 t))) (hg : w5.grownBy w7 (some b)) : Gone w w7 base q b n D L e T X U bv t := by
  have h1 := h.rd.ne
  have h2 := h.blt
  refine ⟨hm, (hg.block q (lt_of_heap h.rd.blk) (by intro hh; exact h1 (Option.some.inj hh))).trans h.rd.blk, (hg.block _ (lt_of_heap h.res) (by intro hh; have := Option.some.inj hh; omega)).trans h.res, (hg.block _ (lt_of_heap h.fld) (by intro hh; have := Option.some.inj hh; omega)).trans h.fld, ⟨hg.os.trans h.bel.os, hg.tape.trans h.bel.tape, hg.output.trans h.bel.output, Nat.le_trans h.bel.size hg.size, fun k hk _ hkb => (hg.block k (Nat.lt_of_lt_of_le hk h.bel.size) (by intro hh; exact hkb (Option.some.inj hh))).trans (h.bel.block k hk)⟩⟩
theorem Gone.fin {w w7 w8 : World} {base q b n : Nat} {D : DataW Value} {L : List (Fld × Value)} {e e' : Nat} {T : Int} {X : Bool} {U : Nat} {bv : Value} {t : Int} (h0 : RdAt w base q b L e) (hr : Rep D L) (h : Gone w w7 base q b n D L e T X U bv t) (hq : w8.heap[q]? = some (.cells #[.map (some b), .int .i64 (e' : Int)] 78)) (hos : w8.os = w7.os ∧ w8.tape = w7.tape ∧ w8.output = w7.output) (hk : ∀ j, j ≠ w.heap.size → j ≠ q → w8.heap[j]? = w7.heap[j]?) (hs : w8.heap.size = w7.heap.size) : RdAt w8 base q b (delT L t) e' ∧ Kept q b w w8 := by
  obtain ⟨n0, D0, hm0, _⟩ := h0.map
  have hb := hm0.lt
  have hK : Kept q b w w8 := ⟨hos.1.trans h.kep.os, hos.2.1.trans h.kep.tape, hos.2.2.trans h.kep.output, by rw [hs]; exact h.kep.size, fun k hk1 h1 h2 => (hk k (by omega) h1).trans (h.kep.block k hk1 h1 h2)⟩
  exact ⟨take_fin h0 hr (owns_same h.own (hk b (by omega) h0.ne.symm)) hq hK, hK⟩
set_option maxRecDepth 20000 in
set_option maxHeartbeats 1000000 in
theorem take_yes (t : Int) (x : Bool) (w : World) (base q b : Nat) (L : List (Fld × Value)) (e : Nat) (F : Fld) (bv : Value) (h : RdAt w base q b L e) (ht : (Lit.int .i64 t).wf = true) (hp : getT L t = some (F, bv)) (hx : (F.text != x) = false) :
    Calls Try.prog 62 #[.pointer (some ⟨q, 0, none⟩), .int .i64 t, .bool x] w fun r w' => r = .returned (FV F.tag F.text F.num bv) ∧ RdAt w' base q b (delT L t) e ∧ Kept q b w w' := by
  obtain ⟨T, tx, nu, by0⟩ := F
  have hone : bv.oneCell' = true := by
    obtain ⟨a, cap, h1, _⟩ := (h.byt _ (getT_mem hp).1).shape
    simp only at h1; rw [h1]; rfl
  have hB : Below w.heap.size w (w.alloc (.cells #[.int .i64 0, .bool false, .int .u64 0, .slice none 0 0] 65)) := (Below.refl _ _).alloc (Nat.le_refl _) _
  obtain ⟨c0, _, _, _⟩ := (h.keep hB).cells
  obtain ⟨n, D, hm, hr⟩ := h.map
  have HRD : Hid (RdAt w base q b L e) := h
  have HM : Hid (w.ownsMap Try.prog 3 hv b n D) := hm
  have HR : Hid (Rep D L) := hr
  have HP : Hid (_) := hp
  obtain ⟨W, hW, hf0, hf1, hbW, hsW⟩ := box_two w
  have HW : Hid (_ = W) := hW
  have HF0 : Hid (_) := hf0
  have HF1 : Hid (_) := hf1
  have HB : Hid (_) := hbW
  have HS : Hid (_) := hsW
  have T1 : Hid True := trivial
  clear h hB hm hr hp hW hf0 hf1 hbW hsW
  cases tx <;> cases x <;> first | (exfalso; simp at hx; done) | skip
  all_goals
    go_enter Try.func62, Try.ntmps62
    go_wp2_with (first
      | (at_lookup; refine wpList_look rfl _ _ rfl rfl rfl (look_yes (World.ownsMap.alloc HM.out _) HR.out ht HP.out) ?_)
      | ((with_reducible refine guard_store 65 ?_); clear T1; rw [HW.out]; refine wpList_store_fld rfl _ _ rfl (k := w.heap.size + 1) (tag2 := T) (text2 := _) (num2 := nu) (bv2 := bv) HF1.out hone rfl rfl ?_; intro w5 hf5 hos5 hk5 hs5; have hg5 := got_of HRD.out HM.out HB.out HS.out HF0.out hf5 hos5 hk5 hs5; have HG : Hid (Got w w5 base q b n D L e T _ nu bv) := hg5; obtain ⟨d0, _, _, _⟩ := hg5.rd.cells; clear hf5 hos5 hk5 hs5 hg5)
      | (at_delete; refine wpList_delete_own _ rfl _ _ 76 3 rfl 65 rd_keyed Try.underlying76 hv b n D rfl HG.out.own _ _ rfl (rd_key ht) ?_; intro w7 hm7 ht7; have hg7 := gone_of HG.out hm7 ht7.grown; have HN : Hid (Gone w w7 base q b n D L e T _ nu bv t) := hg7; obtain ⟨_, f1, _, _⟩ := hg7.fld.cells; clear hm7 ht7 hg7)
      | ((with_reducible refine guard_load 65 ?_); refine wpList_load_fld rfl _ rfl HN.out.fld rfl ?_)
      | ((with_reducible refine guard_store 65 ?_); refine wpList_store_fld rfl _ _ rfl (k := w.heap.size) (tag2 := T) (text2 := _) (num2 := nu) (bv2 := bv) HN.out.res hone rfl rfl ?_; intro w8 hf8 hos8 hk8 hs8))
    exact bodyPost_ret (results_fld rfl _ _ _ rfl hf8) rfl ⟨rfl, HN.out.fin HRD.out HR.out ((hk8 q (by have := HG.out.qlt; omega)).trans HN.out.blk) hos8 (fun j h1 _ => hk8 j h1) hs8⟩
set_option maxRecDepth 20000 in
set_option maxHeartbeats 1000000 in
theorem take_form (t : Int) (x : Bool) (w : World) (base q b : Nat) (L : List (Fld × Value)) (e : Nat) (F : Fld) (bv : Value) (h : RdAt w base q b L e) (ht : (Lit.int .i64 t).wf = true) (hp : getT L t = some (F, bv)) (hx : (F.text != x) = true) :
    Calls Try.prog 62 #[.pointer (some ⟨q, 0, none⟩), .int .i64 t, .bool x] w fun r w' => r = .returned ZF ∧ RdAt w' base q b (delT L t) 33 ∧ Kept q b w w' := by
  obtain ⟨T, tx, nu, by0⟩ := F
  have hone : bv.oneCell' = true := by
    obtain ⟨a, cap, h1, _⟩ := (h.byt _ (getT_mem hp).1).shape
    simp only at h1; rw [h1]; rfl
  have hB : Below w.heap.size w (w.alloc (.cells #[.int .i64 0, .bool false, .int .u64 0, .slice none 0 0] 65)) := (Below.refl _ _).alloc (Nat.le_refl _) _
  obtain ⟨c0, _, _, _⟩ := (h.keep hB).cells
  obtain ⟨n, D, hm, hr⟩ := h.map
  have HRD : Hid (RdAt w base q b L e) := h
  have HM : Hid (w.ownsMap Try.prog 3 hv b n D) := hm
  have HR : Hid (Rep D L) := hr
  have HP : Hid (_) := hp
  obtain ⟨W, hW, hf0, hf1, hbW, hsW⟩ := box_two w
  have HW : Hid (_ = W) := hW
  have HF0 : Hid (_) := hf0
  have HF1 : Hid (_) := hf1
  have HB : Hid (_) := hbW
  have HS : Hid (_) := hsW
  have T1 : Hid True := trivial
  clear h hB hm hr hp hW hf0 hf1 hbW hsW
  cases tx <;> cases x <;> first | (exfalso; simp at hx; done) | skip
  all_goals
    go_enter Try.func62, Try.ntmps62
    go_wp2_with (first
      | (at_lookup; refine wpList_look rfl _ _ rfl rfl rfl (look_yes (World.ownsMap.alloc HM.out _) HR.out ht HP.out) ?_)
      | ((with_reducible refine guard_store 65 ?_); clear T1; rw [HW.out]; refine wpList_store_fld rfl _ _ rfl (k := w.heap.size + 1) (tag2 := T) (text2 := _) (num2 := nu) (bv2 := bv) HF1.out hone rfl rfl ?_; intro w5 hf5 hos5 hk5 hs5; have hg5 := got_of HRD.out HM.out HB.out HS.out HF0.out hf5 hos5 hk5 hs5; have HG : Hid (Got w w5 base q b n D L e T _ nu bv) := hg5; obtain ⟨d0, _, _, _⟩ := hg5.rd.cells; clear hf5 hos5 hk5 hs5 hg5)
      | (at_delete; refine wpList_delete_own _ rfl _ _ 76 3 rfl 65 rd_keyed Try.underlying76 hv b n D rfl HG.out.own _ _ rfl (rd_key ht) ?_; intro w7 hm7 ht7; have hg7 := gone_of HG.out hm7 ht7.grown; have HN : Hid (Gone w w7 base q b n D L e T _ nu bv t) := hg7; obtain ⟨_, f1, _, _⟩ := hg7.fld.cells; have hq1 : w7.cell? ⟨q, 1, none⟩ = some (.int .i64 (e : Int)) := (by rw [cell_of_row _ _ 1 _ _ _ hg7.blk]; rfl); have hq2 : w7.frozen? ⟨q, 1, none⟩ = false := frozen_of_row _ _ 1 _ _ hg7.blk; clear hm7 ht7 hg7)
      | ((with_reducible refine guard_store 65 ?_); refine wpList_store_fld rfl _ _ rfl (k := w.heap.size) (tag2 := 0) (text2 := false) (num2 := 0) (bv2 := .slice none 0 0) (show FldAt (w7.setCell ⟨q, 1, none⟩ (.int .i64 33)) w.heap.size 0 false 0 (.slice none 0 0) from (heap_setCell_other w7 ⟨q, 1, none⟩ w.heap.size _ (by have := HG.out.qlt; show w.heap.size ≠ q; omega)).trans HN.out.res) rfl rfl rfl ?_; intro w8 hf8 hos8 hk8 hs8))
    refine bodyPost_ret (results_fld rfl _ _ _ rfl hf8) rfl ⟨rfl, HN.out.fin HRD.out HR.out ((hk8 q (by have := HG.out.qlt; omega)).trans ?_) ⟨hos8.1, hos8.2.1, hos8.2.2⟩ (fun j h1 h2 => (hk8 j h1).trans (heap_setCell_other w7 ⟨q, 1, none⟩ j _ h2)) (by rw [hs8]; simp)⟩
    rw [heap_setCell_same w7 q 1 _ _ _ HN.out.blk]; rfl
/-- take, every way -/
theorem take_any (t : Int) (x : Bool) (w : World) (base q b : Nat) (L : List (Fld × Value)) (e : Nat) (h : RdAt w base q b L e) (ht : (Lit.int .i64 t).wf = true) :
    Calls Try.prog 62 #[.pointer (some ⟨q, 0, none⟩), .int .i64 t, .bool x] w fun r w' => r = .returned (rdV L t x) ∧ RdAt w' base q b (delT L t) (rdE L e t x) ∧ Kept q b w w' := by
  rcases hp : getT L t with _ | ⟨F, bv⟩
  · have e1 : rdV L t x = ZF := by unfold rdV; rw [hp]
    have e2 : rdE L e t x = e := by unfold rdE; rw [hp]
    rw [e1, e2, delT_none hp]
    refine (take_no t x w base q b L e h ht hp).mono ?_
    rintro r w' ⟨rfl, hb⟩
    exact ⟨rfl, h.keep hb, ⟨hb.os, hb.tape, hb.output, hb.size, fun k hk _ _ => hb.block k hk⟩⟩
  · by_cases hx : F.text = x
    · have e1 : rdV L t x = FV F.tag F.text F.num bv := by unfold rdV; rw [hp]; exact if_pos hx
      have e2 : rdE L e t x = e := by unfold rdE; rw [hp]; exact if_pos hx
      rw [e1, e2]
      exact take_yes t x w base q b L e F bv h ht hp (by simp [hx])
    · have e1 : rdV L t x = ZF := by unfold rdV; rw [hp]; exact if_neg hx
      have e2 : rdE L e t x = 33 := by unfold rdE; rw [hp]; exact if_neg hx
      rw [e1, e2]
      exact take_form t x w base q b L e F bv h ht hp (by simp [hx])
end Go.Proofs.Ytfdaefhamoeaiaa
namespace Go.Proofs.Ytfdaefhamoeaiaa
open Go.ChangeShapes Go.WideShapes Go.ChangeAt Go.RowKit
set_option linter.unusedVariables false
def getF (fs : List Fld) (t : Int) : Option Fld := fs.find? (fun f => f.tag == t)
def delF (fs : List Fld) (t : Int) : List Fld := fs.filter (fun f => !(f.tag == t))
theorem getF_of (L : List (Fld × Value)) (t : Int) : getF (L.map Prod.fst) t = (getT L t).map Prod.fst := by
  unfold getF getT
  rw [List.find?_map]; rfl
theorem delF_of (L : List (Fld × Value)) (t : Int) : delF (L.map Prod.fst) t = (delT L t).map Prod.fst := by
  unfold delF delT
  rw [List.filter_map]; rfl
/-- the number, the text of a tag; the error behind a take -/
def numF (fs : List Fld) (t : Int) : Nat := match getF fs t with | some f => if f.text = false then f.num else 0 | none => 0
def txtF (fs : List Fld) (t : Int) : List Nat := match getF fs t with | some f => if f.text = true then f.bytes else [] | none => []
def errF (fs : List Fld) (e : Nat) (t : Int) (x : Bool) : Nat := match getF fs t with | some f => if f.text = x then e else 33 | none => e
theorem rdE_of (L : List (Fld × Value)) (e : Nat) (t : Int) (x : Bool) : rdE L e t x = errF (L.map Prod.fst) e t x := by
  unfold rdE errF
  rw [getF_of]
  rcases getT L t with _ | ⟨F, v⟩ <;> rfl
theorem fld_two (T : Int) (X : Bool) (U : Nat) (v : Value) (w : World) : (Instr.field 65 (FV T X U v) 2).run Try.prog w = .ok (.int .u64 (U : Int)) w := by kernel_rfl
theorem fld_three (T : Int) (X : Bool) (U : Nat) (v : Value) (w : World) : (Instr.field 65 (FV T X U v) 3).run Try.prog w = .ok v w := by kernel_rfl
theorem rdV_num (L : List (Fld × Value)) (t : Int) : ∃ T X v, rdV L t false = FV T X (numF (L.map Prod.fst) t) v := by
  unfold rdV numF
  rw [getF_of]
  rcases getT L t with _ | ⟨F, v⟩
  · exact ⟨0, false, _, rfl⟩
  · by_cases h : F.text = false
    · refine ⟨F.tag, F.text, v, ?_⟩
      simp only [Option.map, if_pos h]
    · refine ⟨0, false, .slice none 0 0, ?_⟩
      simp only [Option.map, if_neg h]
theorem numF_le {fs : List Fld} (h : ∀ f ∈ fs, FRight f) (t : Int) : numF fs t ≤ 18446744073709551615 := by
  unfold numF
  rcases hg : getF fs t with _ | f
  · simp
  · simp only
    split
    · exact (h f (List.mem_of_find?_eq_some hg)).1
    · omega
theorem txtF_lt {fs : List Fld} (h : ∀ f ∈ fs, FRight f) (t : Int) : (∀ x ∈ txtF fs t, x < 256) ∧ (txtF fs t).length ≤ 200 := by
  unfold txtF
  rcases hg : getF fs t with _ | f
  · simp
  · simp only
    split
    · exact ⟨(h f (List.mem_of_find?_eq_some hg)).2.2.2, (h f (List.mem_of_find?_eq_some hg)).2.1⟩
    · simp
/-- behind a call of a reader's -/
def RdPost (w : World) (base q b : Nat) (L : List (Fld × Value)) (e : Nat) (t : Int) (x : Bool) (w' : World) : Prop := RdAt w' base q b (delT L t) (errF (L.map Prod.fst) e t x) ∧ Kept q b w w'
theorem take_at (t : Int) (x : Bool) (w : World) (base q b : Nat) (L : List (Fld × Value)) (e : Nat) (h : RdAt w base q b L e) (ht : (Lit.int .i64 t).wf = true) :
    Calls Try.prog 62 #[.pointer (some ⟨q, 0, none⟩), .int .i64 t, .bool x] w fun r w' => r = .returned (rdV L t x) ∧ RdPost w base q b L e t x w' := by
  unfold RdPost
  rw [← rdE_of]
  exact take_any t x w base q b L e h ht
set_option maxRecDepth 20000 in
theorem rnum_any (t : Int) (w : World) (base q b : Nat) (L : List (Fld × Value)) (e : Nat) (h : RdAt w base q b L e) (ht : (Lit.int .i64 t).wf = true) :
    Calls Try.prog 61 #[.pointer (some ⟨q, 0, none⟩), .int .i64 t] w fun r w' => r = .returned (.int .u64 (numF (L.map Prod.fst) t : Int)) ∧ RdPost w base q b L e t false w' := by
  have HR : Hid (RdAt w base q b L e) := h
  obtain ⟨T, X, v, hv⟩ := rdV_num L t
  have HV : Hid (_) := hv
  have hfd := fld_two T X (numF (L.map Prod.fst) t) v
  clear h hv
  go_enter Try.func61, Try.ntmps61
  go_wp2_with (go_at_call 62; refine (take_at t false w base q b L e HR.out ht).mono ?_; rw [HV.out]; rintro r w1 ⟨rfl, hp⟩; have HP : Hid (RdPost w base q b L e t false w1) := hp; clear hp)
  go_ret
  exact ⟨rfl, HP.out⟩
theorem rdV_text {w : World} {base q b : Nat} {L : List (Fld × Value)} {e : Nat} (h : RdAt w base q b L e) (t : Int) : ∃ T X U v, rdV L t true = FV T X U v ∧ Own w base v (txtF (L.map Prod.fst) t) := by
  unfold rdV txtF
  rw [getF_of]
  rcases hg : getT L t with _ | ⟨F, v⟩
  · exact ⟨0, false, 0, _, rfl, ⟨by simp, World.ownsRow_nil w base _ 1⟩⟩
  · by_cases hx : F.text = true
    · refine ⟨F.tag, F.text, F.num, v, ?_, ?_⟩
      · simp only [if_pos hx]
      · simp only [Option.map, if_pos hx]
        exact h.byt _ (getT_mem hg).1
    · refine ⟨0, false, 0, .slice none 0 0, ?_, ?_⟩
      · simp only [if_neg hx]
      · simp only [Option.map, if_neg hx]
        exact ⟨by simp, World.ownsRow_nil w base _ 1⟩
theorem RdAt.own {w w' : World} {base q b : Nat} {L : List (Fld × Value)} {e : Nat} (h : RdAt w base q b L e) (hk : Kept q b w w') {v : Value} {l : List Nat} (hv : Own w base v l) : Own w' base v l := by
  refine own_other hv (x := q) (y := b) (fun c hc => ?_) (fun c hc => ?_) (fun k hk1 hk2 hk3 => hk.block k hk1 hk2 hk3)
  · rw [h.blk] at hc; cases hc
  · obtain ⟨n2, D2, hm2, _⟩ := h.map
    obtain ⟨es, c2, hb⟩ := map_blk hm2
    rw [hb] at hc; cases hc
set_option maxRecDepth 20000 in
theorem rtext_any (t : Int) (w : World) (base q b : Nat) (L : List (Fld × Value)) (e : Nat) (h : RdAt w base q b L e) (ht : (Lit.int .i64 t).wf = true) :
    Calls Try.prog 44 #[.pointer (some ⟨q, 0, none⟩), .int .i64 t] w fun r w' => ∃ v, r = .returned v ∧ Own w' base v (txtF (L.map Prod.fst) t) ∧ RdPost w base q b L e t true w' := by
  have HR : Hid (RdAt w base q b L e) := h
  obtain ⟨T, X, U, v, hv, ho⟩ := rdV_text h t
  have HV : Hid (_) := hv
  have HO : Hid (Own w base v (txtF (L.map Prod.fst) t)) := ho
  have hfd := fld_three T X U v
  clear h hv ho
  go_enter Try.func44, Try.ntmps44
  go_wp2_with (go_at_call 62; refine (take_at t true w base q b L e HR.out ht).mono ?_; rw [HV.out]; rintro r w1 ⟨rfl, hp⟩; have HP : Hid (RdPost w base q b L e t true w1) := hp; clear hp)
  go_ret
  exact ⟨v, rfl, HR.out.own HP.out.2 HO.out, HP.out⟩
theorem wpList_lenm {ops : Array Oper} {rest : List Oper} {o : Oper} {a : Act} {w : World} {Q : Exit → Act → World → Prop} (hg : o.guard = none) (m : Operand) (hop : o.op = Op.call { callee := Callee.builtin Builtin.len, args := #[m], argTypes := #[76] }) {b n : Nat} {D : DataW Value} {k : Nat} (hm : a.eval m = .map (some b)) (hown : w.ownsMap Try.prog 3 hv b n D) (hk : Maps.size D = k)
    (hK : wpList Try.prog ops Q rest (a.put o.dst (.int .i64 (k : Int))) w) : wpList Try.prog ops Q (o :: rest) a w := by
  subst hk
  exact wpList_len_own w hg m 76 hop 3 65 Try.underlying76 hv b n D hm hown hK
/-- what Err tells -/
def errR (fs : List Fld) (e : Nat) : Nat := if e ≠ 0 then e else if 0 < fs.length then 20 else 0
set_option maxRecDepth 20000 in
theorem rerr_any (w : World) (base q b : Nat) (L : List (Fld × Value)) (e : Nat) (h : RdAt w base q b L e) :
    Calls Try.prog 29 #[.pointer (some ⟨q, 0, none⟩)] w fun r w' => r = .returned (.int .i64 (errR (L.map Prod.fst) e : Int)) ∧ w = w' := by
  obtain ⟨c0, c1, _, _⟩ := h.cells
  obtain ⟨n, D, hm, hr⟩ := h.map
  have HM : Hid (w.ownsMap Try.prog 3 hv b n D) := hm
  have HS : Hid (Maps.size D = L.length) := hr.sz
  have hll : (L.map Prod.fst).length = L.length := List.length_map ..
  obtain ⟨k, hk⟩ : ∃ k, L.length = k := ⟨_, rfl⟩
  rw [hk] at HS
  by_cases he : e = 0
  · subst he
    by_cases h0 : 0 < k
    · have hE : Hid (errR (L.map Prod.fst) 0 = 20) := by show _ = _; unfold errR; rw [if_neg (by simp), if_pos (by omega)]
      have h0I : (0 : Int) < (k : Int) := by omega
      clear h hm hr hll hk h0
      go_enter Try.func29, Try.ntmps29
      go_wp2_with (at_len; refine wpList_lenm rfl _ rfl rfl HM.out HS.out ?_)
      go_ret
      exact ⟨by rw [hE.out]; rfl, rfl⟩
    · obtain rfl : k = 0 := by omega
      have hE : Hid (errR (L.map Prod.fst) 0 = 0) := by show _ = _; unfold errR; rw [if_neg (by simp), if_neg (by omega)]
      clear h hm hr hll hk h0
      go_enter Try.func29, Try.ntmps29
      go_wp2_with (at_len; refine wpList_lenm rfl _ rfl rfl HM.out HS.out ?_)
      go_ret
      exact ⟨by rw [hE.out]; rfl, rfl⟩
  · have hE : Hid (errR (L.map Prod.fst) e = e) := by show _ = _; unfold errR; rw [if_pos he]
    have heb : ((e : Int) != 0) = true := by simp; omega
    have heb2 : ¬ (e : Int) = 0 := by omega
    clear h hm hr hll hk he
    go_enter Try.func29, Try.ntmps29
    go_wp2
    go_ret
    exact ⟨by rw [hE.out]; rfl, rfl⟩
end Go.Proofs.Ytfdaefhamoeaiaa
namespace Go.Proofs.Ytfdaefhamoeaiaa
open Go.ChangeShapes Go.WideShapes Go.ChangeAt Go.RowKit
set_option linter.unusedVariables false
/-- fields that were written have rising tags -/
theorem encs_rise : ∀ (fs : List Fld) (A : Int) (b r : List Nat), encs fs A b = (r, 0) → fs.Pairwise (fun f g => f.tag < g.tag) ∧ ∀ f ∈ fs, A < f.tag ∧ 1 ≤ f.tag ∧ f.tag ≤ 31 ∧ flt f 0 = 0
  | [], A, b, r, _ => ⟨.nil, by simp⟩
  | f :: fs, A, b, r, h => by
    have h' : (if flt f A ≠ 0 then (([] : List Nat), flt f A) else encs fs f.tag (b ++ one f)) = (r, 0) := h
    by_cases hz : flt f A = 0
    · rw [hz, if_neg (by simp)] at h'
      obtain ⟨h1, h2⟩ := encs_rise fs f.tag (b ++ one f) r h'
      obtain ⟨t1, t2, t3⟩ := flt_tag hz
      have hz0 : flt f 0 = 0 := by
        unfold flt at hz ⊢
        rw [if_neg (by omega), if_neg (by omega)] at hz
        rw [if_neg (by omega), if_neg (by omega)]
        exact hz
      refine ⟨List.pairwise_cons.2 ⟨fun g hg => (h2 g hg).1, h1⟩, fun g hg => ?_⟩
      rcases List.mem_cons.1 hg with rfl | hg
      · exact ⟨by omega, by omega, by omega, hz0⟩
      · obtain ⟨a1, a2, a3, a4⟩ := h2 g hg
        exact ⟨by omega, a2, a3, a4⟩
    · rw [if_pos hz] at h'
      exact absurd (Prod.mk.inj h').2 hz
theorem make_any (n : Int) (w : World) : (Instr.makeMap 76 (some (.int .i64 n))).run Try.prog w = .ok (.map (some w.heap.size)) (w.alloc (.map #[] 0)) := by
  simp [Instr.makeMap]
  rfl
/-- what NewReader answers -/
def NewPost (w : World) (l : List Nat) (r : Ending) (w' : World) : Prop :=
  Below w.heap.size w w' ∧ (((recs l).2.2 ≠ 0 ∧ r = .returned (.tuple #[.pointer none, .int .i64 ((recs l).2.2 : Int)])) ∨
  ((recs l).2.2 = 0 ∧ ∃ q b L, r = .returned (.tuple #[.pointer (some ⟨q, 0, none⟩), .int .i64 0]) ∧ L.map Prod.fst = (recs l).1 ∧ RdAt w' w.heap.size q b L 0 ∧ w.heap.size ≤ q ∧ w.heap.size ≤ b))
set_option maxRecDepth 20000 in
set_option maxHeartbeats 400000 in
theorem newr_bad (l : List Nat) (a : Option Addr) (n cap : Nat) (w : World) (hn : l.length = n) (hb : Bytes w a l) (hcap : n ≤ cap) (hm : n ≤ maxLen) (he : (recs l).2.2 ≠ 0) :
    Calls Try.prog 26 #[.slice a n cap] w fun r w' => r = .returned (.tuple #[.pointer none, .int .i64 ((recs l).2.2 : Int)]) ∧ Below w.heap.size w w' := by
  have HN : Hid (l.length = n) := hn
  have HB : Hid (Bytes w a l) := hb
  obtain ⟨e, hE⟩ : ∃ e, (recs l).2.2 = e := ⟨_, rfl⟩
  obtain ⟨i, hI⟩ : ∃ i, (recs l).2.1 = i := ⟨_, rfl⟩
  rw [hE] at he ⊢
  have HE : Hid (_) := hE
  have HI : Hid (_) := hI
  have heb : ((e : Int) != 0) = true := by simp; omega
  have heb2 : ¬ (e : Int) = 0 := by omega
  clear hn hb he hE hI
  go_enter Try.func26, Try.ntmps26
  go_wp2_with (go_at_call 42; refine (tdec l a n cap w HN.out HB.out hcap hm).mono ?_; rintro r w1 ⟨v, L, hr, hL, hR, hb1⟩; rw [HE.out, HI.out] at hr; subst hr; have HB1 : Hid (_) := hb1; clear hL hR hb1)
  go_ret2
  exact ⟨rfl, HB1.out⟩
/-- behind k rounds: the first k fields lie in the map -/
structure NR (w1 wr : World) (L : List (Fld × Value)) (k : Nat) : Prop where
  bel : Below w1.heap.size w1 wr
  blk : wr.heap[w1.heap.size + 1]? = some (.cells #[.map (some w1.heap.size), .int .i64 0] 78)
  map : ∃ D, wr.ownsMap Try.prog 3 hv w1.heap.size k D ∧ Rep D (L.take k)
theorem NR.start (w1 : World) (L : List (Fld × Value)) : NR w1 ((w1.alloc (.map #[] 0)).alloc (.cells #[.map (some w1.heap.size), .int .i64 0] 78)) L 0 := by
  refine ⟨(((Below.refl _ _).alloc (Nat.le_refl _) _).alloc (by simp) _), ?_, .map [], World.ownsMap.alloc (World.ownsMap_made w1 _ _ _) _, rep_nil⟩
  have := heap_alloc_new (w1.alloc (.map #[] 0)) (.cells #[.map (some w1.heap.size), .int .i64 0] 78)
  simpa using this
/-- the round's store -/
theorem NR.step {w1 wr : World} {L : List (Fld × Value)} {k : Nat} {p : Fld × Value} (h : NR w1 wr L k) (hp : L[k]? = some p) (hn : getT (L.take k) p.1.tag = none) (ht : (Lit.int .i64 p.1.tag).wf = true) (hk : k < maxLen) :
    ∃ W W2, wr.alloc (.cells #[.int .i64 p.1.tag, .bool p.1.text, .int .u64 (p.1.num : Int), p.2] 65) = W ∧ FldAt W wr.heap.size p.1.tag p.1.text p.1.num p.2 ∧ W.cell? ⟨w1.heap.size + 1, 0, none⟩ = some (.map (some w1.heap.size)) ∧
    (Instr.mapUpdate 76 (.map (some w1.heap.size)) (.int .i64 p.1.tag) (FV p.1.tag p.1.text p.1.num p.2)).run Try.prog W.drew = .ok () W2 ∧ NR w1 W2 L (k + 1) := by
  obtain ⟨D, hm, hr⟩ := h.map
  have hq := lt_of_heap h.blk
  have hb := hm.lt
  have hmW : (wr.alloc (.cells #[.int .i64 p.1.tag, .bool p.1.text, .int .u64 (p.1.num : Int), p.2] 65)).drew.ownsMap Try.prog 3 hv w1.heap.size k D := World.ownsMap.drew (World.ownsMap.alloc hm _)
  obtain ⟨W2, hrun, hm2, ht2⟩ := World.ownsMap.store hmW rd_keyed Try.underlying76 hk (rd_key ht) (val := FP p) (d := .held (FP p)) (ps := []) rfl
  have hg := ht2.grown
  have hbW : Below w1.heap.size w1 (wr.alloc (.cells #[.int .i64 p.1.tag, .bool p.1.text, .int .u64 (p.1.num : Int), p.2] 65)) := h.bel.alloc (by omega) _
  have hqW : (wr.alloc (.cells #[.int .i64 p.1.tag, .bool p.1.text, .int .u64 (p.1.num : Int), p.2] 65)).heap[w1.heap.size + 1]? = some (.cells #[.map (some w1.heap.size), .int .i64 0] 78) := (Below.heap_alloc wr _ _ hq).trans h.blk
  have hsz : wr.heap.size < (wr.alloc (.cells #[.int .i64 p.1.tag, .bool p.1.text, .int .u64 (p.1.num : Int), p.2] 65)).heap.size := by simp
  refine ⟨_, W2, rfl, FldAt.new wr _ _ _ _, by rw [cell_of_row _ _ 0 _ _ _ hqW]; rfl, hrun, ⟨hg.os.trans hbW.os, hg.tape.trans hbW.tape, hg.output.trans hbW.output, Nat.le_trans hbW.size hg.size, fun j hj => (hg.block j (Nat.lt_of_lt_of_le hj hbW.size) (by intro hh; have := Option.some.inj hh; omega)).trans (hbW.block j hj)⟩, (hg.block _ (by show _ < (World.alloc ..).heap.size; omega) (by intro hh; have := Option.some.inj hh; omega)).trans hqW, _, hm2, ?_⟩
  have hlt : k < L.length := by
    by_cases hh : k < L.length
    · exact hh
    · rw [List.getElem?_eq_none (by omega)] at hp; cases hp
  have hp2 : L[k] = p := by rw [List.getElem?_eq_getElem hlt] at hp; exact Option.some.inj hp
  rw [List.take_succ_eq_append_getElem hlt, hp2]
  exact hr.put p hn
theorem take_fresh {L : List (Fld × Value)} (h : (L.map Prod.fst).Pairwise (fun f g => f.tag < g.tag)) {k : Nat} {p : Fld × Value} (hp : L[k]? = some p) : getT (L.take k) p.1.tag = none := by
  rw [getT_none]
  intro r hr he
  have hlt : k < L.length := by
    by_cases hh : k < L.length
    · exact hh
    · rw [List.getElem?_eq_none (by omega)] at hp; cases hp
  obtain ⟨i, hi, hri⟩ := List.mem_iff_getElem.1 hr
  have hi2 : i < k := by simp at hi; omega
  rw [List.pairwise_iff_getElem] at h
  have h1 := h i k (by simp; omega) (by simpa using hlt) hi2
  rw [List.getElem?_eq_getElem hlt] at hp
  simp only [List.getElem_map, List.getElem_take] at h1 hri
  rw [hri, Option.some.inj hp] at h1
  omega
theorem wf_tag {t : Int} (h1 : 1 ≤ t) (h2 : t ≤ 31) : (Lit.int .i64 t).wf = true := WalkArith.wf_i64 (by omega)
set_option maxRecDepth 20000 in
set_option maxHeartbeats 1000000 in
theorem newr_ok (l : List Nat) (a : Option Addr) (n cap : Nat) (w : World) (hn : l.length = n) (hb : Bytes w a l) (hcap : n ≤ cap) (hm : n ≤ maxLen) (he : (recs l).2.2 = 0) :
    Calls Try.prog 26 #[.slice a n cap] w fun r w' => Below w.heap.size w w' ∧ ∃ q b L, r = .returned (.tuple #[.pointer (some ⟨q, 0, none⟩), .int .i64 0]) ∧ L.map Prod.fst = (recs l).1 ∧ RdAt w' w.heap.size q b L 0 ∧ w.heap.size ≤ q ∧ w.heap.size ≤ b := by
  have hl : ∀ x ∈ l, x < 256 := by
    intro x hx
    obtain ⟨i, hi, rfl⟩ := List.mem_iff_getElem.1 hx
    have := hb.1 i
    simpa [List.getD_eq_getElem?_getD, hi] using this
  obtain ⟨r1, r2, r3, r4⟩ := recs_ok l hl he
  obtain ⟨r5, r6⟩ := encs_rise _ _ _ _ r2
  have HRI : Hid ((recs l).1.Pairwise (fun f g => f.tag < g.tag) ∧ (∀ f ∈ (recs l).1, FRight f) ∧ ∀ f ∈ (recs l).1, 1 ≤ f.tag ∧ f.tag ≤ 31) := ⟨r5, r3, fun f hf => ⟨(r6 f hf).2.1, (r6 f hf).2.2.1⟩⟩
  have HLN : Hid ((recs l).1.length ≤ 512) := by
    have h1 := encs_len _ _ _ _ (fun f hf => (r3 f hf).1) r2
    show _ ≤ _
    simp only [List.length_nil] at h1
    omega
  have HN : Hid (l.length = n) := hn
  have HB : Hid (Bytes w a l) := hb
  have HE : Hid (_) := he
  have HI : Hid (_) := r1
  have hmm := make_any
  clear hn hb he r1 r2 r3 r4 r5 r6 hl
  go_enter Try.func26, Try.ntmps26
  go_wp2_with (go_at_call 42; refine (tdec l a n cap w HN.out HB.out hcap hm).mono ?_; rintro r w1 ⟨v, L, hr, hL, hR, hb1⟩; rw [HE.out, HI.out] at hr; subst hr; obtain ⟨a2, cap2, hv2, hF⟩ := hR.fs (fun p hp => by have h9 := HRI.out.2.1 p.1 (by rw [hL]; exact List.mem_map_of_mem hp); exact ⟨h9.1, by unfold maxLen; have := h9.2.1; omega⟩); subst hv2; have HB1 : Hid (_) := hb1; have HL : Hid (_) := hL; have HR : Hid (Rws w1 w.heap.size (.slice a2 L.length cap2) L) := hR; have HF : Hid (FsAt w1 a2 L) := hF; obtain ⟨N, hN⟩ : ∃ N, L.length = N := ⟨_, rfl⟩; have HN2 : Hid (L.length = N) := hN; rw [hN]; have hN5 : N ≤ 512 := (by have h9 := HLN.out; rw [hL, List.length_map, hN] at h9; exact h9); clear hL hR hb1 hF hN)
  have HST : Hid (_) := NR.start w1 L
  go_loopw [26] (fun vi wr => ∃ k : Nat, k ≤ N ∧ vi = .int .i64 k ∧ Hid (NR w1 wr L k)) (fun vi _ => N - (intOf vi).toNat)
  case atStart => exact ⟨0, Nat.zero_le _, rfl, HST.out⟩
  case round =>
    obtain ⟨k, hk, rfl, HI2⟩ := hrel
    by_cases hkl : k < N
    · obtain ⟨p, hp⟩ : ∃ p, L[k]? = some p := ⟨_, List.getElem?_eq_getElem (by rw [HN2.out]; exact hkl)⟩
      have hpm : p ∈ L := List.mem_of_getElem? hp
      obtain ⟨b2, off2, hab⟩ : ∃ b off, a2 = some ⟨b, off, none⟩ := by
        rcases HF.out.row with h0 | ⟨b2, off2, h1, _⟩
        · rw [h0] at hpm; cases hpm
        · exact ⟨b2, off2, h1⟩
      subst hab
      obtain ⟨c0, c1, c2, c3⟩ := (HF.out.keep HI2.out.bel).cells k p hp
      obtain ⟨ad, pcap, hpv, _, _⟩ := (HF.out.fok p hpm).byt
      have hfm : p.1 ∈ (recs l).1 := by rw [HL.out]; exact List.mem_map_of_mem hpm
      obtain ⟨W, W2, hW, hf, cq, hrun, hNR⟩ := HI2.out.step hp (take_fresh (by rw [← HL.out]; exact HRI.out.1) hp) (wf_tag (HRI.out.2.2 _ hfm).1 (HRI.out.2.2 _ hfm).2) (by unfold maxLen; omega)
      obtain ⟨F, bv⟩ := p
      simp only at c0 c1 c2 c3 hpv hW hf cq hrun
      subst hpv
      obtain ⟨f0, f1, f2, f3⟩ := hf.cells
      have HNR : Hid (NR w1 W2 L (k + 1)) := hNR
      obtain ⟨M, hM⟩ : ∃ M, F.bytes.length = M := ⟨_, rfl⟩
      rw [hM] at c3 hW f3 hrun
      have HW : Hid (_ = W) := hW
      clear hM hNR hf hfm hpm hp hW
      go_wp2
      rw [HW.out]
      go_region
      all_goals go_wp2
      go_roundw
      case rel => exact ⟨k + 1, by omega, by go_num, HNR.out⟩
      case measure => simp [intOf]; omega
    · obtain rfl : k = N := by omega
      go_wp2
      go_ret2
      refine ⟨below_next HB1.out HI2.out.bel, w1.heap.size + 1, w1.heap.size, L, rfl, HL.out.symm, ⟨HI2.out.blk, ?_, fun p hp => ?_⟩, by have := HB1.out.size; omega, HB1.out.size⟩
      · obtain ⟨D, hm1, hr1⟩ := HI2.out.map
        rw [List.take_of_length_le (by rw [HN2.out]; exact Nat.le_refl _)] at hr1
        exact ⟨_, D, hm1, hr1⟩
      · exact own_app (HR.out.byt p hp) HI2.out.bel
theorem newr_any (l : List Nat) (a : Option Addr) (n cap : Nat) (w : World) (hn : l.length = n) (hb : Bytes w a l) (hcap : n ≤ cap) (hm : n ≤ maxLen) :
    Calls Try.prog 26 #[.slice a n cap] w fun r w' => NewPost w l r w' := by
  by_cases he : (recs l).2.2 = 0
  · refine (newr_ok l a n cap w hn hb hcap hm he).mono ?_
    rintro r w' ⟨h1, h2⟩
    exact ⟨h1, .inr ⟨he, h2⟩⟩
  · refine (newr_bad l a n cap w hn hb hcap hm he).mono ?_
    rintro r w' ⟨h1, h2⟩
    exact ⟨h2, .inl ⟨he, h1⟩⟩
end Go.Proofs.Ytfdaefhamoeaiaa
