/- Own texts, joined: Rd2, Zig, Tlo, Rd3. -/
import Derived.Test.YtfhcbdmmckjmaaaJ05
import Derived.Test.YtfhcbdmmckjmaaaRows
import Derived.Test.YtfhcbdmmckjmaaaJ00
import Derived.Test.YtfhcbdmmckjmaaaJ01
namespace Go.Proofs.Ytfhcbdmmckjmaaa
open Go.ChangeShapes Go.WideShapes Go.ChangeAt Go.RowKit
set_option linter.unusedVariables false
theorem map_blk {w : World} {b n : Nat} {D : DataW Value} (h : w.ownsMap Try.prog 3 hv b n D) : ∃ es c, w.heap[b]? = some (.map es c) := by
  obtain ⟨es, c, h1, _⟩ := h; exact ⟨es, c, h1⟩
theorem RdAt.ne {w : World} {base q b : Nat} {L : List (Fld × Value)} {e : Nat} (h : RdAt w base q b L e) : q ≠ b := by
  obtain ⟨n, D, hm, _⟩ := h.map
  obtain ⟨es, c, hb⟩ := map_blk hm
  intro hh
  have := h.blk
  rw [hh, hb] at this
  cases this
theorem take_fin {w w8 : World} {base q b n : Nat} {D : DataW Value} {L : List (Fld × Value)} {e e' : Nat} {t : Int} (h : RdAt w base q b L e) (hr : Rep D L) (hm8 : w8.ownsMap Try.prog 3 hv b n (D.del (.int .i64 t))) (hq : w8.heap[q]? = some (.cells #[.map (some b), .int .i64 (e' : Int)] 110)) (hk : Kept q b w w8) : RdAt w8 base q b (delT L t) e' := by
  refine ⟨hq, ⟨n, _, hm8, hr.del t⟩, fun p hp => own_other (h.byt p (List.mem_filter.1 hp).1) (x := q) (y := b) (fun c hc => ?_) (fun c hc => ?_) (fun k hk1 hk2 hk3 => hk.block k hk1 hk2 hk3)⟩
  · rw [h.blk] at hc; cases hc
  · obtain ⟨n2, D2, hm2, _⟩ := h.map
    obtain ⟨es, c2, hb⟩ := map_blk hm2
    rw [hb] at hc; cases hc
/-- behind the store of what was found -/
structure Got (w w5 : World) (base q b n : Nat) (D : DataW Value) (L : List (Fld × Value)) (e : Nat) (T : Int) (X : Bool) (U : Nat) (bv : Value) : Prop where
  rd : RdAt w5 base q b L e
  bel : Below w.heap.size w w5
  own : w5.ownsMap Try.prog 3 hv b n D
  res : FldAt w5 w.heap.size 0 false 0 (.slice none 0 0)
  fld : FldAt w5 (w.heap.size + 1) T X U bv
  qlt : q < w.heap.size
  blt : b < w.heap.size
theorem got_of {w W w5 : World} {base q b n : Nat} {D : DataW Value} {L : List (Fld × Value)} {e : Nat} {T : Int} {X : Bool} {U : Nat} {bv : Value} (h : RdAt w base q b L e) (hm : w.ownsMap Try.prog 3 hv b n D) (hb : Below w.heap.size w W) (hs : W.heap.size = w.heap.size + 2) (h0 : FldAt W w.heap.size 0 false 0 (.slice none 0 0))
    (hf5 : FldAt w5 (w.heap.size + 1) T X U bv) (hos : w5.os = W.os ∧ w5.tape = W.tape ∧ w5.output = W.output) (hk : ∀ j, j ≠ w.heap.size + 1 → w5.heap[j]? = W.heap[j]?) (hs5 : w5.heap.size = W.heap.size) : Got w w5 base q b n D L e T X U bv := by
  have hB5 : Below w.heap.size w w5 := ⟨hos.1.trans hb.os, hos.2.1.trans hb.tape, hos.2.2.trans hb.output, by rw [hs5, hs]; omega, fun k hk1 => (hk k (by omega)).trans (hb.block k hk1)⟩
  exact ⟨h.keep hB5, hB5, owns_same hm (hB5.block b hm.lt), (hk _ (by omega)).trans h0, hf5, lt_of_heap h.blk, hm.lt⟩
/-- behind the delete -/
structure Gone (w w7 : World) (base q b n : Nat) (D : DataW Value) (L : List (Fld × Value)) (e : Nat) (T : Int) (X : Bool) (U : Nat) (bv : Value) (t : Int) : Prop where
  own : w7.ownsMap Try.prog 3 hv b n (D.del (.int .i64 t))
  blk : w7.heap[q]? = some (.cells #[.map (some b), .int .i64 (e : Int)] 110)
  res : FldAt w7 w.heap.size 0 false 0 (.slice none 0 0)
  fld : FldAt w7 (w.heap.size + 1) T X U bv
  kep : Kept q b w w7
theorem gone_of {w w5 w7 : World} {base q b n : Nat} {D : DataW Value} {L : List (Fld × Value)} {e : Nat} {T : Int} {X : Bool} {U : Nat} {bv : Value} {t : Int} (h : Got w w5 base q b n D L e T X U bv) (hm : w7.ownsMap Try.prog 3 hv b n (D.del (.int .i64 t))) (hg : w5.grownBy w7 (some b)) : Gone w w7 base q b n D L e T X U bv t := by
  have h1 := h.rd.ne
  have h2 := h.blt
  refine ⟨hm, (hg.block q (lt_of_heap h.rd.blk) (by intro hh; exact h1 (Option.some.inj hh))).trans h.rd.blk, (hg.block _ (lt_of_heap h.res) (by intro hh; have := Option.some.inj hh; omega)).trans h.res, (hg.block _ (lt_of_heap h.fld) (by intro hh; have := Option.some.inj hh; omega)).trans h.fld, ⟨hg.os.trans h.bel.os, hg.tape.trans h.bel.tape, hg.output.trans h.bel.output, Nat.le_trans h.bel.size hg.size, fun k hk _ hkb => (hg.block k (Nat.lt_of_lt_of_le hk h.bel.size) (by intro hh; exact hkb (Option.some.inj hh))).trans (h.bel.block k hk)⟩⟩
theorem Gone.fin {w w7 w8 : World} {base q b n : Nat} {D : DataW Value} {L : List (Fld × Value)} {e e' : Nat} {T : Int} {X : Bool} {U : Nat} {bv : Value} {t : Int} (h0 : RdAt w base q b L e) (hr : Rep D L) (h : Gone w w7 base q b n D L e T X U bv t) (hq : w8.heap[q]? = some (.cells #[.map (some b), .int .i64 (e' : Int)] 110)) (hos : w8.os = w7.os ∧ w8.tape = w7.tape ∧ w8.output = w7.output) (hk : ∀ j, j ≠ w.heap.size → j ≠ q → w8.heap[j]? = w7.heap[j]?) (hs : w8.heap.size = w7.heap.size) : RdAt w8 base q b (delT L t) e' ∧ Kept q b w w8 := by
  obtain ⟨n0, D0, hm0, _⟩ := h0.map
  have hb := hm0.lt
  have hK : Kept q b w w8 := ⟨hos.1.trans h.kep.os, hos.2.1.trans h.kep.tape, hos.2.2.trans h.kep.output, by rw [hs]; exact h.kep.size, fun k hk1 h1 h2 => (hk k (by omega) h1).trans (h.kep.block k hk1 h1 h2)⟩
  exact ⟨take_fin h0 hr (owns_same h.own (hk b (by omega) h0.ne.symm)) hq hK, hK⟩
set_option maxRecDepth 20000 in
set_option maxHeartbeats 1000000 in
theorem take_yes (t : Int) (x : Bool) (w : World) (base q b : Nat) (L : List (Fld × Value)) (e : Nat) (F : Fld) (bv : Value) (h : RdAt w base q b L e) (ht : (Lit.int .i64 t).wf = true) (hp : getT L t = some (F, bv)) (hx : (F.text != x) = false) :
    Calls Try.prog 92 #[.pointer (some ⟨q, 0, none⟩), .int .i64 t, .bool x] w fun r w' => r = .returned (FV F.tag F.text F.num bv) ∧ RdAt w' base q b (delT L t) e ∧ Kept q b w w' := by
  obtain ⟨T, tx, nu, by0⟩ := F
  have hone : bv.oneCell' = true := by
    obtain ⟨a, cap, h1, _⟩ := (h.byt _ (getT_mem hp).1).shape
    simp only at h1; rw [h1]; rfl
  have hB : Below w.heap.size w (w.alloc (.cells #[.int .i64 0, .bool false, .int .u64 0, .slice none 0 0] 70)) := (Below.refl _ _).alloc (Nat.le_refl _) _
  obtain ⟨c0, _, _, _⟩ := (h.keep hB).cells
  obtain ⟨n, D, hm, hr⟩ := h.map
  have HRD : Hid (RdAt w base q b L e) := h
  have HM : Hid (w.ownsMap Try.prog 3 hv b n D) := hm
  have HR : Hid (Rep D L) := hr
  have HP : Hid (_) := hp
  obtain ⟨W, hW, hf0, hf1, hbW, hsW⟩ := box_two w
  have HW : Hid (_ = W) := hW
  have HF0 : Hid (_) := hf0
  have HF1 : Hid (_) := hf1
  have HB : Hid (_) := hbW
  have HS : Hid (_) := hsW
  have T1 : Hid True := trivial
  clear h hB hm hr hp hW hf0 hf1 hbW hsW
  cases tx <;> cases x <;> first | (exfalso; simp at hx; done) | skip
  all_goals
    go_enter Try.func92, Try.ntmps92
    go_wp2_with (first
      | (at_lookup; refine wpList_look rfl _ _ rfl rfl rfl (look_yes (World.ownsMap.alloc HM.out _) HR.out ht HP.out) ?_)
      | ((with_reducible refine guard_store 70 ?_); clear T1; rw [HW.out]; refine wpList_store_fld rfl _ _ rfl (k := w.heap.size + 1) (tag2 := T) (text2 := _) (num2 := nu) (bv2 := bv) HF1.out hone rfl rfl ?_; intro w5 hf5 hos5 hk5 hs5; have hg5 := got_of HRD.out HM.out HB.out HS.out HF0.out hf5 hos5 hk5 hs5; have HG : Hid (Got w w5 base q b n D L e T _ nu bv) := hg5; obtain ⟨d0, _, _, _⟩ := hg5.rd.cells; clear hf5 hos5 hk5 hs5 hg5)
      | (at_delete; refine wpList_delete_own _ rfl _ _ 108 3 rfl 70 rd_keyed Try.underlying108 hv b n D rfl HG.out.own _ _ rfl (rd_key ht) ?_; intro w7 hm7 ht7; have hg7 := gone_of HG.out hm7 ht7.grown; have HN : Hid (Gone w w7 base q b n D L e T _ nu bv t) := hg7; obtain ⟨_, f1, _, _⟩ := hg7.fld.cells; clear hm7 ht7 hg7)
      | ((with_reducible refine guard_load 70 ?_); refine wpList_load_fld rfl _ rfl HN.out.fld rfl ?_)
      | ((with_reducible refine guard_store 70 ?_); refine wpList_store_fld rfl _ _ rfl (k := w.heap.size) (tag2 := T) (text2 := _) (num2 := nu) (bv2 := bv) HN.out.res hone rfl rfl ?_; intro w8 hf8 hos8 hk8 hs8))
    exact bodyPost_ret (results_fld rfl _ _ _ rfl hf8) rfl ⟨rfl, HN.out.fin HRD.out HR.out ((hk8 q (by have := HG.out.qlt; omega)).trans HN.out.blk) hos8 (fun j h1 _ => hk8 j h1) hs8⟩
set_option maxRecDepth 20000 in
set_option maxHeartbeats 1000000 in
theorem take_form (t : Int) (x : Bool) (w : World) (base q b : Nat) (L : List (Fld × Value)) (e : Nat) (F : Fld) (bv : Value) (h : RdAt w base q b L e) (ht : (Lit.int .i64 t).wf = true) (hp : getT L t = some (F, bv)) (hx : (F.text != x) = true) :
    Calls Try.prog 92 #[.pointer (some ⟨q, 0, none⟩), .int .i64 t, .bool x] w fun r w' => r = .returned ZF ∧ RdAt w' base q b (delT L t) 33 ∧ Kept q b w w' := by
  obtain ⟨T, tx, nu, by0⟩ := F
  have hone : bv.oneCell' = true := by
    obtain ⟨a, cap, h1, _⟩ := (h.byt _ (getT_mem hp).1).shape
    simp only at h1; rw [h1]; rfl
  have hB : Below w.heap.size w (w.alloc (.cells #[.int .i64 0, .bool false, .int .u64 0, .slice none 0 0] 70)) := (Below.refl _ _).alloc (Nat.le_refl _) _
  obtain ⟨c0, _, _, _⟩ := (h.keep hB).cells
  obtain ⟨n, D, hm, hr⟩ := h.map
  have HRD : Hid (RdAt w base q b L e) := h
  have HM : Hid (w.ownsMap Try.prog 3 hv b n D) := hm
  have HR : Hid (Rep D L) := hr
  have HP : Hid (_) := hp
  obtain ⟨W, hW, hf0, hf1, hbW, hsW⟩ := box_two w
  have HW : Hid (_ = W) := hW
  have HF0 : Hid (_) := hf0
  have HF1 : Hid (_) := hf1
  have HB : Hid (_) := hbW
  have HS : Hid (_) := hsW
  have T1 : Hid True := trivial
  clear h hB hm hr hp hW hf0 hf1 hbW hsW
  cases tx <;> cases x <;> first | (exfalso; simp at hx; done) | skip
  all_goals
    go_enter Try.func92, Try.ntmps92
    go_wp2_with (first
      | (at_lookup; refine wpList_look rfl _ _ rfl rfl rfl (look_yes (World.ownsMap.alloc HM.out _) HR.out ht HP.out) ?_)
      | ((with_reducible refine guard_store 70 ?_); clear T1; rw [HW.out]; refine wpList_store_fld rfl _ _ rfl (k := w.heap.size + 1) (tag2 := T) (text2 := _) (num2 := nu) (bv2 := bv) HF1.out hone rfl rfl ?_; intro w5 hf5 hos5 hk5 hs5; have hg5 := got_of HRD.out HM.out HB.out HS.out HF0.out hf5 hos5 hk5 hs5; have HG : Hid (Got w w5 base q b n D L e T _ nu bv) := hg5; obtain ⟨d0, _, _, _⟩ := hg5.rd.cells; clear hf5 hos5 hk5 hs5 hg5)
      | (at_delete; refine wpList_delete_own _ rfl _ _ 108 3 rfl 70 rd_keyed Try.underlying108 hv b n D rfl HG.out.own _ _ rfl (rd_key ht) ?_; intro w7 hm7 ht7; have hg7 := gone_of HG.out hm7 ht7.grown; have HN : Hid (Gone w w7 base q b n D L e T _ nu bv t) := hg7; obtain ⟨_, f1, _, _⟩ := hg7.fld.cells; have hq1 : w7.cell? ⟨q, 1, none⟩ = some (.int .i64 (e : Int)) := (by rw [cell_of_row _ _ 1 _ _ _ hg7.blk]; rfl); have hq2 : w7.frozen? ⟨q, 1, none⟩ = false := frozen_of_row _ _ 1 _ _ hg7.blk; clear hm7 ht7 hg7)
      | ((with_reducible refine guard_store 70 ?_); refine wpList_store_fld rfl _ _ rfl (k := w.heap.size) (tag2 := 0) (text2 := false) (num2 := 0) (bv2 := .slice none 0 0) (show FldAt (w7.setCell ⟨q, 1, none⟩ (.int .i64 33)) w.heap.size 0 false 0 (.slice none 0 0) from (heap_setCell_other w7 ⟨q, 1, none⟩ w.heap.size _ (by have := HG.out.qlt; show w.heap.size ≠ q; omega)).trans HN.out.res) rfl rfl rfl ?_; intro w8 hf8 hos8 hk8 hs8))
    refine bodyPost_ret (results_fld rfl _ _ _ rfl hf8) rfl ⟨rfl, HN.out.fin HRD.out HR.out ((hk8 q (by have := HG.out.qlt; omega)).trans ?_) ⟨hos8.1, hos8.2.1, hos8.2.2⟩ (fun j h1 h2 => (hk8 j h1).trans (heap_setCell_other w7 ⟨q, 1, none⟩ j _ h2)) (by rw [hs8]; simp)⟩
    rw [heap_setCell_same w7 q 1 _ _ _ HN.out.blk]; rfl
/-- take, every way -/
theorem take_any (t : Int) (x : Bool) (w : World) (base q b : Nat) (L : List (Fld × Value)) (e : Nat) (h : RdAt w base q b L e) (ht : (Lit.int .i64 t).wf = true) :
    Calls Try.prog 92 #[.pointer (some ⟨q, 0, none⟩), .int .i64 t, .bool x] w fun r w' => r = .returned (rdV L t x) ∧ RdAt w' base q b (delT L t) (rdE L e t x) ∧ Kept q b w w' := by
  rcases hp : getT L t with _ | ⟨F, bv⟩
  · have e1 : rdV L t x = ZF := by unfold rdV; rw [hp]
    have e2 : rdE L e t x = e := by unfold rdE; rw [hp]
    rw [e1, e2, delT_none hp]
    refine (take_no t x w base q b L e h ht hp).mono ?_
    rintro r w' ⟨rfl, hb⟩
    exact ⟨rfl, h.keep hb, ⟨hb.os, hb.tape, hb.output, hb.size, fun k hk _ _ => hb.block k hk⟩⟩
  · by_cases hx : F.text = x
    · have e1 : rdV L t x = FV F.tag F.text F.num bv := by unfold rdV; rw [hp]; exact if_pos hx
      have e2 : rdE L e t x = e := by unfold rdE; rw [hp]; exact if_pos hx
      rw [e1, e2]
      exact take_yes t x w base q b L e F bv h ht hp (by simp [hx])
    · have e1 : rdV L t x = ZF := by unfold rdV; rw [hp]; exact if_neg hx
      have e2 : rdE L e t x = 33 := by unfold rdE; rw [hp]; exact if_neg hx
      rw [e1, e2]
      exact take_form t x w base q b L e F bv h ht hp (by simp [hx])
end Go.Proofs.Ytfhcbdmmckjmaaa
namespace Go.Proofs.Ytfhcbdmmckjmaaa
open Go.ChangeShapes Go.WideShapes Go.ChangeAt Go.RowKit
theorem zig_any (v : Int) (w : World) (h0 : -9223372036854775808 ≤ v) (h1 : v ≤ 9223372036854775807) :
    Calls Try.prog 89 #[.int .i64 v] w fun e w' => e = .returned (.int .u64 (zig v)) ∧ w = w' := by
  have hz : Hid (_ = _) := zig_val v h0 h1
  go_enter Try.func89, Try.ntmps89
  go_wp2
  go_ret
  exact ⟨ret_int hz.out, rfl⟩
theorem zag_any (u : Int) (w : World) (h0 : 0 ≤ u) (h1 : u ≤ 18446744073709551615) :
    Calls Try.prog 91 #[.int .u64 u] w fun e w' => e = .returned (.int .i64 (zag u)) ∧ w = w' := by
  have hz : Hid (_ = _) := zag_val u h0 h1
  go_enter Try.func91, Try.ntmps91
  go_wp2
  go_ret
  exact ⟨ret_int hz.out, rfl⟩
theorem rzig_any (v : Int) (w : World) (h0 : -9223372036854775808 ≤ v) (h1 : v ≤ 9223372036854775807) :
    Calls Try.prog 48 #[.int .i64 v] w fun e w' => e = .returned (.int .u64 (zig v)) ∧ w = w' := by
  by_cases h : 0 ≤ v
  · go_enter Try.func48, Try.ntmps48
    go_wp2
    go_ret
    exact ⟨ret_int (by unfold zig; rw [if_pos h]; omega), rfl⟩
  · go_enter Try.func48, Try.ntmps48
    go_wp2
    go_ret
    exact ⟨ret_int (by unfold zig; rw [if_neg (by omega)]; omega), rfl⟩
theorem rzag_any (u : Int) (w : World) (h0 : 0 ≤ u) (h1 : u ≤ 18446744073709551615) :
    Calls Try.prog 35 #[.int .u64 u] w fun e w' => e = .returned (.int .i64 (zag u)) ∧ w = w' := by
  by_cases h : u % 2 = 0
  · have hb : (u % 2 == 0) = true := by simpa using h
    have hz : Hid (zag u = u / 2) := by unfold zag; rw [if_pos h]; exact rfl
    clear h
    go_enter Try.func35, Try.ntmps35
    go_wp2
    go_ret
    exact ⟨ret_int hz.out.symm, rfl⟩
  · have hb : (u % 2 == 0) = false := by simpa using h
    have hz : Hid (zag u = -(u / 2) - 1) := by unfold zag; rw [if_neg h]; exact rfl
    clear h
    go_enter Try.func35, Try.ntmps35
    go_wp2
    go_ret
    exact ⟨ret_int hz.out.symm, rfl⟩
end Go.Proofs.Ytfhcbdmmckjmaaa
namespace Go.Proofs.Ytfhcbdmmckjmaaa
open Go.ChangeShapes Go.WideShapes Go.ChangeAt Go.RowKit
/-- what is asked of a field that was read -/
def FRight (f : Fld) : Prop := f.num ≤ 18446744073709551615 ∧ f.bytes.length ≤ 200 ∧ norm f = f ∧ ∀ x ∈ f.bytes, x < 256
theorem decs_facts (l : List Nat) (hl : ∀ x ∈ l, x < 256) : ∀ (fuel i : Nat) (A : Int) (acc : List Fld), i ≤ l.length → l.length - i < fuel →
    ((decs fuel l A i acc).2.2 = 0 → ∃ rest, (decs fuel l A i acc).1 = acc ++ rest ∧ (decs fuel l A i acc).2.1 = 0 ∧ encs rest A (l.take i) = encs [] 0 l ∧ ∀ f ∈ rest, FRight f) ∧
    ((decs fuel l A i acc).2.2 ≠ 0 → (decs fuel l A i acc).1 = [] ∧ (decs fuel l A i acc).2.1 ≤ l.length) := by
  intro fuel
  induction fuel with
  | zero => intro i A acc h1 h2; omega
  | succ fuel ih =>
    intro i A acc h1 h2
    have hs : decs (fuel + 1) l A i acc = if l.length ≤ i then (acc, 0, 0) else if (next (l.drop i) A).2.2 ≠ 0 then ([], i, (next (l.drop i) A).2.2) else decs fuel l (next (l.drop i) A).1.tag (i + (next (l.drop i) A).2.1) (acc ++ [(next (l.drop i) A).1]) := rfl
    rw [hs]
    by_cases hi : l.length ≤ i
    · rw [if_pos hi]
      refine ⟨fun _ => ⟨[], by simp, rfl, ?_, by simp⟩, fun h => absurd rfl h⟩
      rw [List.take_of_length_le hi]; rfl
    · rw [if_neg hi]
      rcases hx : next (l.drop i) A with ⟨F, sz, e⟩
      simp only
      by_cases he : e = 0
      · subst he
        rw [if_neg (by simp)]
        have hl2 : ∀ x ∈ l.drop i, x < 256 := fun x hx => hl x (List.mem_of_mem_drop hx)
        obtain ⟨r1, r2, r3, r4, r5, r6, r7, _, _, _, r8⟩ := next_right (l.drop i) hl2 A F sz hx
        rw [List.length_drop] at r4
        obtain ⟨k1, k2⟩ := ih (i + sz) F.tag (acc ++ [F]) (by omega) (by omega)
        refine ⟨fun h => ?_, k2⟩
        obtain ⟨rest, e1, e2, e3, e4⟩ := k1 h
        refine ⟨F :: rest, by rw [e1]; simp, e2, ?_, ?_⟩
        · show (if flt F A ≠ 0 then _ else encs rest F.tag (l.take i ++ one F)) = _
          rw [r1, if_neg (by simp), r3, ← List.take_add]
          exact e3
        · intro f hf
          rcases List.mem_cons.1 hf with rfl | hf
          · exact ⟨r6, r8, r2, r7⟩
          · exact e4 f hf
      · rw [if_pos he]
        exact ⟨fun h => absurd h he, fun _ => ⟨rfl, by simp only; omega⟩⟩
theorem encs_len : ∀ (fs : List Fld) (A : Int) (b r : List Nat), (∀ f ∈ fs, f.num ≤ 18446744073709551615) → encs fs A b = (r, 0) → b.length + 2 * fs.length ≤ r.length
  | [], A, b, r, _, h => by
    have h' : (if 1024 < b.length then (([] : List Nat), 24) else (b, 0)) = (r, 0) := h
    by_cases hb : 1024 < b.length
    · rw [if_pos hb] at h'; simp at h'
    · rw [if_neg hb] at h'
      have := (Prod.mk.inj h').1
      subst this; simp
  | f :: fs, A, b, r, hn, h => by
    have h' : (if flt f A ≠ 0 then (([] : List Nat), flt f A) else encs fs f.tag (b ++ one f)) = (r, 0) := h
    by_cases hz : flt f A = 0
    · rw [hz, if_neg (by simp)] at h'
      have h1 := encs_len fs f.tag (b ++ one f) r (fun g hg => hn g (List.mem_cons_of_mem _ hg)) h'
      have h2 := (one_len f A (hn f (by simp)) hz).1
      simp only [List.length_append, List.length_cons] at h1 ⊢
      omega
    · rw [if_pos hz] at h'
      exact absurd (Prod.mk.inj h').2 hz
/-- a whole record that is read: its fields, written again, are the record -/
theorem recs_ok (l : List Nat) (hl : ∀ x ∈ l, x < 256) (h : (recs l).2.2 = 0) : (recs l).2.1 = 0 ∧ encs (recs l).1 0 [] = (l, 0) ∧ (∀ f ∈ (recs l).1, FRight f) ∧ l.length ≤ 1024 := by
  unfold recs at h ⊢
  by_cases hb : 1024 < l.length
  · rw [if_pos hb] at h; cases h
  · rw [if_neg hb] at h ⊢
    obtain ⟨rest, e1, e2, e3, e4⟩ := (decs_facts l hl (l.length + 1) 0 0 [] (by omega) (by omega)).1 h
    rw [e1, List.nil_append]
    refine ⟨e2, ?_, e4, by omega⟩
    rw [List.take_zero] at e3
    rw [e3]
    show (if 1024 < l.length then ([], 24) else (l, 0)) = (l, 0)
    rw [if_neg hb]
theorem recs_bad (l : List Nat) (hl : ∀ x ∈ l, x < 256) (h : (recs l).2.2 ≠ 0) : (recs l).1 = [] ∧ (recs l).2.1 ≤ l.length := by
  unfold recs at h ⊢
  by_cases hb : 1024 < l.length
  · rw [if_pos hb]; exact ⟨rfl, by simp⟩
  · rw [if_neg hb] at h ⊢
    exact (decs_facts l hl (l.length + 1) 0 0 [] (by omega) (by omega)).2 h
end Go.Proofs.Ytfhcbdmmckjmaaa
namespace Go.Proofs.Ytfhcbdmmckjmaaa
open Go.ChangeShapes Go.WideShapes Go.ChangeAt Go.RowKit
set_option linter.unusedVariables false
def getF (fs : List Fld) (t : Int) : Option Fld := fs.find? (fun f => f.tag == t)
def delF (fs : List Fld) (t : Int) : List Fld := fs.filter (fun f => !(f.tag == t))
theorem getF_of (L : List (Fld × Value)) (t : Int) : getF (L.map Prod.fst) t = (getT L t).map Prod.fst := by
  unfold getF getT
  rw [List.find?_map]; rfl
theorem delF_of (L : List (Fld × Value)) (t : Int) : delF (L.map Prod.fst) t = (delT L t).map Prod.fst := by
  unfold delF delT
  rw [List.filter_map]; rfl
/-- the number, the text of a tag; the error behind a take -/
def numF (fs : List Fld) (t : Int) : Nat := match getF fs t with | some f => if f.text = false then f.num else 0 | none => 0
def txtF (fs : List Fld) (t : Int) : List Nat := match getF fs t with | some f => if f.text = true then f.bytes else [] | none => []
def errF (fs : List Fld) (e : Nat) (t : Int) (x : Bool) : Nat := match getF fs t with | some f => if f.text = x then e else 33 | none => e
theorem rdE_of (L : List (Fld × Value)) (e : Nat) (t : Int) (x : Bool) : rdE L e t x = errF (L.map Prod.fst) e t x := by
  unfold rdE errF
  rw [getF_of]
  rcases getT L t with _ | ⟨F, v⟩ <;> rfl
theorem fld_two (T : Int) (X : Bool) (U : Nat) (v : Value) (w : World) : (Instr.field 70 (FV T X U v) 2).run Try.prog w = .ok (.int .u64 (U : Int)) w := by kernel_rfl
theorem fld_three (T : Int) (X : Bool) (U : Nat) (v : Value) (w : World) : (Instr.field 70 (FV T X U v) 3).run Try.prog w = .ok v w := by kernel_rfl
theorem rdV_num (L : List (Fld × Value)) (t : Int) : ∃ T X v, rdV L t false = FV T X (numF (L.map Prod.fst) t) v := by
  unfold rdV numF
  rw [getF_of]
  rcases getT L t with _ | ⟨F, v⟩
  · exact ⟨0, false, _, rfl⟩
  · by_cases h : F.text = false
    · refine ⟨F.tag, F.text, v, ?_⟩
      simp only [Option.map, if_pos h]
    · refine ⟨0, false, .slice none 0 0, ?_⟩
      simp only [Option.map, if_neg h]
theorem numF_le {fs : List Fld} (h : ∀ f ∈ fs, FRight f) (t : Int) : numF fs t ≤ 18446744073709551615 := by
  unfold numF
  rcases hg : getF fs t with _ | f
  · simp
  · simp only
    split
    · exact (h f (List.mem_of_find?_eq_some hg)).1
    · omega
theorem txtF_lt {fs : List Fld} (h : ∀ f ∈ fs, FRight f) (t : Int) : (∀ x ∈ txtF fs t, x < 256) ∧ (txtF fs t).length ≤ 200 := by
  unfold txtF
  rcases hg : getF fs t with _ | f
  · simp
  · simp only
    split
    · exact ⟨(h f (List.mem_of_find?_eq_some hg)).2.2.2, (h f (List.mem_of_find?_eq_some hg)).2.1⟩
    · simp
/-- behind a call of a reader's -/
def RdPost (w : World) (base q b : Nat) (L : List (Fld × Value)) (e : Nat) (t : Int) (x : Bool) (w' : World) : Prop := RdAt w' base q b (delT L t) (errF (L.map Prod.fst) e t x) ∧ Kept q b w w'
theorem take_at (t : Int) (x : Bool) (w : World) (base q b : Nat) (L : List (Fld × Value)) (e : Nat) (h : RdAt w base q b L e) (ht : (Lit.int .i64 t).wf = true) :
    Calls Try.prog 92 #[.pointer (some ⟨q, 0, none⟩), .int .i64 t, .bool x] w fun r w' => r = .returned (rdV L t x) ∧ RdPost w base q b L e t x w' := by
  unfold RdPost
  rw [← rdE_of]
  exact take_any t x w base q b L e h ht
set_option maxRecDepth 20000 in
theorem rnum_any (t : Int) (w : World) (base q b : Nat) (L : List (Fld × Value)) (e : Nat) (h : RdAt w base q b L e) (ht : (Lit.int .i64 t).wf = true) :
    Calls Try.prog 93 #[.pointer (some ⟨q, 0, none⟩), .int .i64 t] w fun r w' => r = .returned (.int .u64 (numF (L.map Prod.fst) t : Int)) ∧ RdPost w base q b L e t false w' := by
  have HR : Hid (RdAt w base q b L e) := h
  obtain ⟨T, X, v, hv⟩ := rdV_num L t
  have HV : Hid (_) := hv
  have hfd := fld_two T X (numF (L.map Prod.fst) t) v
  clear h hv
  go_enter Try.func93, Try.ntmps93
  go_wp2_with (go_at_call 92; refine (take_at t false w base q b L e HR.out ht).mono ?_; rw [HV.out]; rintro r w1 ⟨rfl, hp⟩; have HP : Hid (RdPost w base q b L e t false w1) := hp; clear hp)
  go_ret
  exact ⟨rfl, HP.out⟩
set_option maxRecDepth 20000 in
theorem rint_any (t : Int) (w : World) (base q b : Nat) (L : List (Fld × Value)) (e : Nat) (h : RdAt w base q b L e) (ht : (Lit.int .i64 t).wf = true) (hf : ∀ f ∈ L.map Prod.fst, FRight f) :
    Calls Try.prog 81 #[.pointer (some ⟨q, 0, none⟩), .int .i64 t] w fun r w' => r = .returned (.int .i64 (zag (numF (L.map Prod.fst) t : Int))) ∧ RdPost w base q b L e t false w' := by
  have HR : Hid (RdAt w base q b L e) := h
  obtain ⟨T, X, v, hv⟩ := rdV_num L t
  have HV : Hid (_) := hv
  obtain ⟨u, hu⟩ : ∃ u, numF (L.map Prod.fst) t = u := ⟨_, rfl⟩
  have hle := numF_le hf t
  rw [hu] at hle HV ⊢
  have HL : Hid ((u : Int) ≤ 18446744073709551615) := by show _ ≤ _; omega
  have hfd := fld_two T X u v
  clear h hv hu hf hle
  go_enter Try.func81, Try.ntmps81
  go_wp2_with (first
    | (go_at_call 92; refine (take_at t false w base q b L e HR.out ht).mono ?_; rw [HV.out]; rintro r w1 ⟨rfl, hp⟩; have HP : Hid (RdPost w base q b L e t false w1) := hp; clear hp)
    | (go_at_call 91; refine (zag_any (u : Int) w1 (by omega) HL.out).mono ?_; rintro r w2 ⟨rfl, rfl⟩))
  go_ret
  exact ⟨rfl, HP.out⟩
theorem rdV_text {w : World} {base q b : Nat} {L : List (Fld × Value)} {e : Nat} (h : RdAt w base q b L e) (t : Int) : ∃ T X U v, rdV L t true = FV T X U v ∧ Own w base v (txtF (L.map Prod.fst) t) := by
  unfold rdV txtF
  rw [getF_of]
  rcases hg : getT L t with _ | ⟨F, v⟩
  · exact ⟨0, false, 0, _, rfl, ⟨by simp, World.ownsRow_nil w base _ 1⟩⟩
  · by_cases hx : F.text = true
    · refine ⟨F.tag, F.text, F.num, v, ?_, ?_⟩
      · simp only [if_pos hx]
      · simp only [Option.map, if_pos hx]
        exact h.byt _ (getT_mem hg).1
    · refine ⟨0, false, 0, .slice none 0 0, ?_, ?_⟩
      · simp only [if_neg hx]
      · simp only [Option.map, if_neg hx]
        exact ⟨by simp, World.ownsRow_nil w base _ 1⟩
theorem RdAt.own {w w' : World} {base q b : Nat} {L : List (Fld × Value)} {e : Nat} (h : RdAt w base q b L e) (hk : Kept q b w w') {v : Value} {l : List Nat} (hv : Own w base v l) : Own w' base v l := by
  refine own_other hv (x := q) (y := b) (fun c hc => ?_) (fun c hc => ?_) (fun k hk1 hk2 hk3 => hk.block k hk1 hk2 hk3)
  · rw [h.blk] at hc; cases hc
  · obtain ⟨n2, D2, hm2, _⟩ := h.map
    obtain ⟨es, c2, hb⟩ := map_blk hm2
    rw [hb] at hc; cases hc
set_option maxRecDepth 20000 in
theorem rtext_any (t : Int) (w : World) (base q b : Nat) (L : List (Fld × Value)) (e : Nat) (h : RdAt w base q b L e) (ht : (Lit.int .i64 t).wf = true) :
    Calls Try.prog 103 #[.pointer (some ⟨q, 0, none⟩), .int .i64 t] w fun r w' => ∃ v, r = .returned v ∧ Own w' base v (txtF (L.map Prod.fst) t) ∧ RdPost w base q b L e t true w' := by
  have HR : Hid (RdAt w base q b L e) := h
  obtain ⟨T, X, U, v, hv, ho⟩ := rdV_text h t
  have HV : Hid (_) := hv
  have HO : Hid (Own w base v (txtF (L.map Prod.fst) t)) := ho
  have hfd := fld_three T X U v
  clear h hv ho
  go_enter Try.func103, Try.ntmps103
  go_wp2_with (go_at_call 92; refine (take_at t true w base q b L e HR.out ht).mono ?_; rw [HV.out]; rintro r w1 ⟨rfl, hp⟩; have HP : Hid (RdPost w base q b L e t true w1) := hp; clear hp)
  go_ret
  exact ⟨v, rfl, HR.out.own HP.out.2 HO.out, HP.out⟩
theorem wpList_lenm {ops : Array Oper} {rest : List Oper} {o : Oper} {a : Act} {w : World} {Q : Exit → Act → World → Prop} (hg : o.guard = none) (m : Operand) (hop : o.op = Op.call { callee := Callee.builtin Builtin.len, args := #[m], argTypes := #[108] }) {b n : Nat} {D : DataW Value} {k : Nat} (hm : a.eval m = .map (some b)) (hown : w.ownsMap Try.prog 3 hv b n D) (hk : Maps.size D = k)
    (hK : wpList Try.prog ops Q rest (a.put o.dst (.int .i64 (k : Int))) w) : wpList Try.prog ops Q (o :: rest) a w := by
  subst hk
  exact wpList_len_own w hg m 108 hop 3 70 Try.underlying108 hv b n D hm hown hK
/-- what Err tells -/
def errR (fs : List Fld) (e : Nat) : Nat := if e ≠ 0 then e else if 0 < fs.length then 20 else 0
set_option maxRecDepth 20000 in
theorem rerr_any (w : World) (base q b : Nat) (L : List (Fld × Value)) (e : Nat) (h : RdAt w base q b L e) :
    Calls Try.prog 38 #[.pointer (some ⟨q, 0, none⟩)] w fun r w' => r = .returned (.int .i64 (errR (L.map Prod.fst) e : Int)) ∧ w = w' := by
  obtain ⟨c0, c1, _, _⟩ := h.cells
  obtain ⟨n, D, hm, hr⟩ := h.map
  have HM : Hid (w.ownsMap Try.prog 3 hv b n D) := hm
  have HS : Hid (Maps.size D = L.length) := hr.sz
  have hll : (L.map Prod.fst).length = L.length := List.length_map ..
  obtain ⟨k, hk⟩ : ∃ k, L.length = k := ⟨_, rfl⟩
  rw [hk] at HS
  by_cases he : e = 0
  · subst he
    by_cases h0 : 0 < k
    · have hE : Hid (errR (L.map Prod.fst) 0 = 20) := by show _ = _; unfold errR; rw [if_neg (by simp), if_pos (by omega)]
      have h0I : (0 : Int) < (k : Int) := by omega
      clear h hm hr hll hk h0
      go_enter Try.func38, Try.ntmps38
      go_wp2_with (at_len; refine wpList_lenm rfl _ rfl rfl HM.out HS.out ?_)
      go_ret
      exact ⟨by rw [hE.out]; rfl, rfl⟩
    · obtain rfl : k = 0 := by omega
      have hE : Hid (errR (L.map Prod.fst) 0 = 0) := by show _ = _; unfold errR; rw [if_neg (by simp), if_neg (by omega)]
      clear h hm hr hll hk h0
      go_enter Try.func38, Try.ntmps38
      go_wp2_with (at_len; refine wpList_lenm rfl _ rfl rfl HM.out HS.out ?_)
      go_ret
      exact ⟨by rw [hE.out]; rfl, rfl⟩
  · have hE : Hid (errR (L.map Prod.fst) e = e) := by show _ = _; unfold errR; rw [if_pos he]
    have heb : ((e : Int) != 0) = true := by simp; omega
    have heb2 : ¬ (e : Int) = 0 := by omega
    clear h hm hr hll hk he
    go_enter Try.func38, Try.ntmps38
    go_wp2
    go_ret
    exact ⟨by rw [hE.out]; rfl, rfl⟩
end Go.Proofs.Ytfhcbdmmckjmaaa
