/- Own texts, joined: Tlwr, Tlws. -/
import Derived.Test.YtbdgiecnhgiogaaK16
import Derived.Test.YtbdgiecnhgiogaaK12
import Derived.Deep.AppendLies
import Derived.Deep.RegionHeld3
import Derived.Deep.RegionLaw
namespace Go.Proofs.Ytbdgiecnhgiogaa
open Go.ChangeShapes Go.WideShapes Go.ChangeAt Go.RowKit
set_option linter.unusedVariables false
/-- a writer: its fields (a row of its own), the last tag, the error -/
structure WrAt (w : World) (base q : Nat) (v : Value) (L : List (Fld × Value)) (A : Int) (e : Nat) : Prop where
  blk : w.heap[q]? = some (.cells #[v, .int .i64 A, .int .i64 (e : Int)] 68)
  row : Rws w base v L
  qlt : q < base
  bsz : base ≤ w.heap.size
theorem WrAt.cells {w : World} {base q : Nat} {v : Value} {L : List (Fld × Value)} {A : Int} {e : Nat} (h : WrAt w base q v L A e) : w.cell? ⟨q, 0, none⟩ = some v ∧ w.cell? ⟨q, 1, none⟩ = some (.int .i64 A) ∧ w.cell? ⟨q, 2, none⟩ = some (.int .i64 (e : Int)) ∧ w.frozen? ⟨q, 0, none⟩ = false ∧ w.frozen? ⟨q, 1, none⟩ = false ∧ w.frozen? ⟨q, 2, none⟩ = false :=
  ⟨by rw [cell_of_row _ _ 0 _ _ _ h.blk]; rfl, by rw [cell_of_row _ _ 1 _ _ _ h.blk]; rfl, by rw [cell_of_row _ _ 2 _ _ _ h.blk]; rfl, frozen_of_row _ _ 0 _ _ h.blk, frozen_of_row _ _ 1 _ _ h.blk, frozen_of_row _ _ 2 _ _ h.blk⟩
theorem WrAt.keep {w w' : World} {base q : Nat} {v : Value} {L : List (Fld × Value)} {A : Int} {e : Nat} (h : WrAt w base q v L A e) (hb : Below w.heap.size w w') : WrAt w' base q v L A e :=
  ⟨(hb.block q (lt_of_heap h.blk)).trans h.blk, h.row.same (fun k _ hk => hb.block k hk), h.qlt, Nat.le_trans h.bsz hb.size⟩
theorem neww_any (w : World) : Calls Try.prog 6 #[] w fun r w' => r = .returned (.pointer (some ⟨w.heap.size, 0, none⟩)) ∧ WrAt w' (w.heap.size + 1) w.heap.size (.slice none 0 0) [] 0 0 ∧ Below w.heap.size w w' := by
  go_enter Try.func6, Try.ntmps6
  go_wp2
  go_ret
  refine ⟨rfl, ⟨?_, Rws.nil _ _, Nat.lt_succ_self _, by simp⟩, (Below.refl _ _).alloc (Nat.le_refl _) _⟩
  simp only [World.alloc, Array.getElem?_push]
  rw [if_pos trivial]; rfl
/-- keep's field in its box, the writer beside it -/
theorem box_of {w : World} {base q : Nat} {v : Value} {L : List (Fld × Value)} {A : Int} {e : Nat} (h : WrAt w base q v L A e) (F : Fld) (bv : Value) : ∃ W, w.alloc (.cells #[.int .i64 F.tag, .bool F.text, .int .u64 (F.num : Int), bv] 32) = W ∧ WrAt W base q v L A e ∧ FldAt W w.heap.size F.tag F.text F.num bv ∧ Below w.heap.size w W ∧ W.heap.size = w.heap.size + 1 :=
  have hb := (Below.refl w.heap.size w).alloc (Nat.le_refl _) (.cells #[.int .i64 F.tag, .bool F.text, .int .u64 (F.num : Int), bv] 32)
  ⟨_, rfl, h.keep hb, FldAt.new _ _ _ _ _, hb, by simp⟩
set_option maxRecDepth 20000 in
set_option maxHeartbeats 400000 in
theorem keep_err (F : Fld) (bv : Value) (w : World) (base q : Nat) (v : Value) (L : List (Fld × Value)) (A : Int) (e : Nat) (h : WrAt w base q v L A e) (he : e ≠ 0) :
    Calls Try.prog 30 #[.pointer (some ⟨q, 0, none⟩), FV F.tag F.text F.num bv] w fun r w' => r = .returned (.pointer (some ⟨q, 0, none⟩)) ∧ WrAt w' base q v L A e ∧ Below w.heap.size w w' := by
  obtain ⟨W, hW, h1, h2, h3, h4⟩ := box_of h F bv
  have HW : Hid (_ = W) := hW
  have HWR : Hid (WrAt W base q v L A e) := h1
  have HB : Hid (Below w.heap.size w W) := h3
  obtain ⟨_, _, c2, _, _, _⟩ := h1.cells
  rw [← hW] at c2
  have heb : ((e : Int) != 0) = true := by simp; omega
  clear hW h1 h2 h3 h4 h
  go_enter Try.func30, Try.ntmps30
  go_wp2
  go_ret
  rw [HW.out]
  exact ⟨rfl, HWR.out, HB.out⟩
theorem WrAt.drewN {w : World} {base q : Nat} {v : Value} {L : List (Fld × Value)} {A : Int} {e : Nat} (h : WrAt w base q v L A e) (m : Nat) : WrAt (w.drewN m) base q v L A e := ⟨by simpa using h.blk, h.row.drewN m, h.qlt, by simpa using h.bsz⟩
theorem check_at (F : Fld) (A : Int) (ad : Option Addr) (n cap : Nat) (w : World) (hn : F.bytes.length = n) (hnum : F.num ≤ 18446744073709551615) :
    Calls Try.prog 41 #[FV F.tag F.text F.num (.slice ad n cap), .int .i64 A] w fun r w' => r = .returned (.int .i64 (flt F A : Int)) ∧ Below w.heap.size w w' := by
  subst hn
  exact check_any F A ad cap w hnum
set_option maxRecDepth 20000 in
set_option maxHeartbeats 1000000 in
theorem keep_zero (F : Fld) (ad : Option Addr) (n cap : Nat) (w : World) (base q : Nat) (v : Value) (L : List (Fld × Value)) (A : Int) (h : WrAt w base q v L A 0) (hn : F.bytes.length = n) (hnum : F.num ≤ 18446744073709551615) (hz : flt F A = 22) :
    Calls Try.prog 30 #[.pointer (some ⟨q, 0, none⟩), FV F.tag F.text F.num (.slice ad n cap)] w fun r w' => r = .returned (.pointer (some ⟨q, 0, none⟩)) ∧ WrAt w' base q v L A 0 ∧ Below w.heap.size w w' := by
  obtain ⟨W, hW, h1, h2, h3, h4⟩ := box_of h F (.slice ad n cap)
  have HW : Hid (_ = W) := hW
  have HWR : Hid (WrAt W base q v L A 0) := h1
  have HF : Hid (FldAt W w.heap.size F.tag F.text F.num (.slice ad n cap)) := h2
  have HB : Hid (Below w.heap.size w W ∧ W.heap.size = w.heap.size + 1) := ⟨h3, h4⟩
  have HQ : Hid (q < w.heap.size) := lt_of_heap h.blk
  have HN : Hid (F.bytes.length = n) := hn
  have HNUM : Hid (F.num ≤ 18446744073709551615) := hnum
  obtain ⟨_, c1, c2, _, _, _⟩ := h1.cells
  obtain ⟨b0, b1, b2, b3⟩ := h2.cells
  have HZ : Hid (flt F A = 22) := hz
  clear h h1 h2 h3 h4 hn hnum hz
  rw [← hW] at c2
  clear hW
  go_enter Try.func30, Try.ntmps30
  go_wp2
  rw [HW.out]
  go_region_held3 (fun w' => w'.cell? ⟨w.heap.size, 0, none⟩ = some (.int .i64 F.tag) ∧ w'.cell? ⟨w.heap.size, 1, none⟩ = some (.bool F.text) ∧ w'.cell? ⟨w.heap.size, 2, none⟩ = some (.int .u64 (F.num : Int)) ∧ w'.cell? ⟨w.heap.size, 3, none⟩ = some (.slice ad n cap) ∧ w'.cell? ⟨q, 1, none⟩ = some (.int .i64 A)) (go_keep) ((go_at_call 41; refine (check_at F A ad n cap _ HN.out HNUM.out).mono ?_; rw [HZ.out]; rintro r w1 ⟨rfl, hb1⟩; have hf1 : FldAt w1 w.heap.size F.tag F.text F.num (.slice ad n cap) := (show FldAt W.drew w.heap.size F.tag F.text F.num (.slice ad n cap) from HF.out).keep hb1; have hw1 : WrAt w1 base q v L A 0 := (show WrAt W.drew base q v L A 0 from HWR.out.drewN 1).keep hb1; obtain ⟨d0, d1, d2, d3⟩ := hf1.cells; obtain ⟨x0, x1, x2, x3, x4, x5⟩ := hw1.cells; have HF1 : Hid (FldAt w1 w.heap.size F.tag F.text F.num (.slice ad n cap)) := hf1; have HW1 : Hid (WrAt w1 base q v L A 0) := hw1; have HB1 : Hid (Below W.heap.size W w1) := ((Below.refl W.heap.size W).drew).trans hb1; clear hb1 hf1 hw1))
  go_wp2
  go_ret
  exact ⟨rfl, HW1.out, HB.out.1.trans (HB1.out.mono (by rw [HB.out.2]; omega))⟩
theorem WrAt.set0 {w : World} {base q : Nat} {v : Value} {L : List (Fld × Value)} {A : Int} {e : Nat} (h : WrAt w base q v L A e) (e' : Nat) : WrAt ((w.setCell ⟨q, 0, none⟩ (.slice none 0 0)).setCell ⟨q, 2, none⟩ (.int .i64 (e' : Int))) base q (.slice none 0 0) [] A e' := by
  refine ⟨?_, Rws.nil _ _, h.qlt, by simpa [World.setCell] using h.bsz⟩
  have h1 := heap_setCell_same w q 0 _ _ (.slice none 0 0) h.blk
  have h2 := heap_setCell_same _ q 2 _ _ (.int .i64 (e' : Int)) h1
  exact h2
set_option maxRecDepth 20000 in
set_option maxHeartbeats 1000000 in
theorem keep_bad (F : Fld) (ad : Option Addr) (n cap : Nat) (w : World) (base q : Nat) (v : Value) (L : List (Fld × Value)) (A : Int) (e : Nat) (h : WrAt w base q v L A 0) (hn : F.bytes.length = n) (hnum : F.num ≤ 18446744073709551615) (hz : flt F A = e) (he0 : e ≠ 0) (he1 : e ≠ 22) :
    Calls Try.prog 30 #[.pointer (some ⟨q, 0, none⟩), FV F.tag F.text F.num (.slice ad n cap)] w fun r w' => r = .returned (.pointer (some ⟨q, 0, none⟩)) ∧ WrAt w' base q (.slice none 0 0) [] A e ∧ Kept q q w w' := by
  obtain ⟨W, hW, h1, h2, h3, h4⟩ := box_of h F (.slice ad n cap)
  have HW : Hid (_ = W) := hW
  have HWR : Hid (WrAt W base q v L A 0) := h1
  have HF : Hid (FldAt W w.heap.size F.tag F.text F.num (.slice ad n cap)) := h2
  have HB : Hid (Below w.heap.size w W ∧ W.heap.size = w.heap.size + 1) := ⟨h3, h4⟩
  have HQ : Hid (q < w.heap.size) := lt_of_heap h.blk
  have HN : Hid (F.bytes.length = n) := hn
  have HNUM : Hid (F.num ≤ 18446744073709551615) := hnum
  obtain ⟨_, c1, c2, _, _, _⟩ := h1.cells
  obtain ⟨b0, b1, b2, b3⟩ := h2.cells
  have HZ : Hid (flt F A = e) := hz
  have heb : ¬ (e : Int) = 0 := by omega
  have heb2 : ¬ (e : Int) = 22 := by omega
  clear h h1 h2 h3 h4 hn hnum hz
  rw [← hW] at c2
  clear hW
  go_enter Try.func30, Try.ntmps30
  go_wp2
  rw [HW.out]
  go_region_held3 (fun w' => w'.cell? ⟨w.heap.size, 0, none⟩ = some (.int .i64 F.tag) ∧ w'.cell? ⟨w.heap.size, 1, none⟩ = some (.bool F.text) ∧ w'.cell? ⟨w.heap.size, 2, none⟩ = some (.int .u64 (F.num : Int)) ∧ w'.cell? ⟨w.heap.size, 3, none⟩ = some (.slice ad n cap) ∧ w'.cell? ⟨q, 1, none⟩ = some (.int .i64 A)) (go_keep) ((go_at_call 41; refine (check_at F A ad n cap _ HN.out HNUM.out).mono ?_; rw [HZ.out]; rintro r w1 ⟨rfl, hb1⟩; have hf1 : FldAt w1 w.heap.size F.tag F.text F.num (.slice ad n cap) := (show FldAt W.drew w.heap.size F.tag F.text F.num (.slice ad n cap) from HF.out).keep hb1; have hw1 : WrAt w1 base q v L A 0 := (show WrAt W.drew base q v L A 0 from HWR.out.drewN 1).keep hb1; obtain ⟨d0, d1, d2, d3⟩ := hf1.cells; obtain ⟨x0, x1, x2, x3, x4, x5⟩ := hw1.cells; have HF1 : Hid (FldAt w1 w.heap.size F.tag F.text F.num (.slice ad n cap)) := hf1; have HW1 : Hid (WrAt w1 base q v L A 0) := hw1; have HB1 : Hid (Below W.heap.size W w1) := ((Below.refl W.heap.size W).drew).trans hb1; clear hb1 hf1 hw1))
  go_wp2
  go_ret
  refine ⟨rfl, HW1.out.set0 e, ?_⟩
  have hk := HB.out.1.trans (HB1.out.mono (by rw [HB.out.2]; omega))
  exact ⟨hk.os, hk.tape, hk.output, by simp [World.setCell]; exact hk.size, fun k hk1 hk2 _ => (heap_setCell_other _ ⟨q, 2, none⟩ k _ hk2).trans ((heap_setCell_other _ ⟨q, 0, none⟩ k _ hk2).trans (hk.block k hk1))⟩
end Go.Proofs.Ytbdgiecnhgiogaa
namespace Go.Proofs.Ytbdgiecnhgiogaa
open Go.ChangeShapes Go.WideShapes Go.ChangeAt Go.RowKit
set_option linter.unusedVariables false
set_option maxRecDepth 20000 in
theorem clone_fld (l : List Nat) (ad : Option Addr) (n cap : Nat) (w : World) (hn : l.length = n) (hb : Bytes w ad l) (h0 : l = [] → ad = none ∧ cap = 0) (hl : n ≤ 140737488355328) :
    Calls Try.prog 43 #[.slice ad n cap] w fun r w' => ∃ v, r = .returned v ∧ Own w' w.heap.size v l ∧ Below w.heap.size w w' := by
  by_cases hc : l = []
  · obtain ⟨rfl, rfl⟩ := h0 hc
    subst hc
    simp only [List.length_nil] at hn
    subst hn
    clear hb h0 hl
    have he : ∀ w : World, (binOp .eql 27 (.slice none 0 0) (.slice none 0 0)).run Try.prog w = .ok (.bool true) w := fun _ => rfl
    go_enter Try.func43, Try.ntmps43
    go_wp2
    go_ret
    exact ⟨_, rfl, own_nil _ _, Below.refl _ _⟩
  · obtain ⟨b, off, rfl, _, _⟩ := hb.nonempty hc
    exact clone_any l b off n cap w hn (by rw [← hn]; exact List.length_pos_iff.2 hc) hb hl
/-- the field behind the row, the writer's cells written -/
theorem keep_fin {w W3 w4 : World} {base q : Nat} {v : Value} {L : List (Fld × Value)} {A : Int} {F : Fld} {xa : Option Addr} {n xc g cap' : Nat} (hR0 : Rws w base v L) (hq : q < base) (hbs : base ≤ w.heap.size) (hbl : ∀ k, k < w.heap.size → W3.heap[k]? = w.heap[k]?) (hst : W3.os = w.os ∧ W3.tape = w.tape ∧ W3.output = w.output) (hs3 : w.heap.size ≤ W3.heap.size) (hO3 : Own W3 base (.slice xa n xc) F.bytes) (hR3 : Rws W3 base v L)
    (hown : w4.ownsRow base 32 4 (.slice (some ⟨g, 0, none⟩) (L.length + 1) cap') (L.length + 1) (flat L ++ [.int .i64 F.tag, .bool F.text, .int .u64 (F.num : Int), .slice xa n xc])) (hgrow : (W3.drew.alloc (.cells #[.int .i64 F.tag, .bool F.text, .int .u64 (F.num : Int), .slice xa n xc] 32)).grownBy w4 v.ownBlock) (hat : v.ownBlock = some g ∨ g = W3.heap.size + 1) (hqb : w4.heap[q]? = some (.cells #[v, .int .i64 A, .int .i64 0] 68)) (hlt : base ≤ w4.heap.size) :
    WrAt ((w4.setCell ⟨q, 0, none⟩ (.slice (some ⟨g, 0, none⟩) (L.length + 1) cap')).setCell ⟨q, 1, none⟩ (.int .i64 F.tag)) base q (.slice (some ⟨g, 0, none⟩) (L.length + 1) cap') (L ++ [(F, .slice xa n xc)]) F.tag 0 ∧ (v.ownBlock = some g ∨ w.heap.size ≤ g) ∧ Kept q (v.ownBlock.getD q) w ((w4.setCell ⟨q, 0, none⟩ (.slice (some ⟨g, 0, none⟩) (L.length + 1) cap')).setCell ⟨q, 1, none⟩ (.int .i64 F.tag)) := by
  have hR4 : Rws (W3.drew.alloc (.cells #[.int .i64 F.tag, .bool F.text, .int .u64 (F.num : Int), .slice xa n xc] 32)) base v L := (hR3.drewN 1).alloc _
  have hO4 : Own (W3.drew.alloc (.cells #[.int .i64 F.tag, .bool F.text, .int .u64 (F.num : Int), .slice xa n xc] 32)) base (.slice xa n xc) F.bytes := own_app hO3 (((Below.refl _ _).drew).alloc (Nat.le_refl _) _)
  have hso : ∀ k, base ≤ k → ((w4.setCell ⟨q, 0, none⟩ (.slice (some ⟨g, 0, none⟩) (L.length + 1) cap')).setCell ⟨q, 1, none⟩ (.int .i64 F.tag)).heap[k]? = w4.heap[k]? := fun k hk =>
    (heap_setCell_other _ ⟨q, 1, none⟩ k _ (by show k ≠ q; omega)).trans (heap_setCell_other _ ⟨q, 0, none⟩ k _ (by show k ≠ q; omega))
  refine ⟨⟨?_, ⟨?_, ?_⟩, hq, by simpa [World.setCell] using hlt⟩, ?_, ?_⟩
  · have h1 := heap_setCell_same w4 q 0 _ _ (.slice (some ⟨g, 0, none⟩) (L.length + 1) cap') hqb
    have h2 := heap_setCell_same _ q 1 _ _ (.int .i64 F.tag) h1
    exact h2
  · rw [flat_append, List.length_append]
    exact own_same hown hso
  · intro p hp
    rcases List.mem_append.1 hp with h | h
    · have h1 := own_grown hR4.own hgrow (hR4.byt p h)
      exact ⟨h1.1, own_same h1.2 hso⟩
    · obtain rfl := List.mem_singleton.1 h
      have h1 := own_grown hR4.own hgrow hO4
      exact ⟨h1.1, own_same h1.2 hso⟩
  · rcases hat with h | h
    · exact .inl h
    · exact .inr (by omega)
  · refine ⟨hgrow.os.trans hst.1, hgrow.tape.trans hst.2.1, hgrow.output.trans hst.2.2, ?_, fun k hk h1 h2 => ?_⟩
    · have h5 := hgrow.size
      simp [World.setCell] at h5 ⊢
      omega
    · refine (heap_setCell_other _ ⟨q, 1, none⟩ k _ h1).trans ((heap_setCell_other _ ⟨q, 0, none⟩ k _ h1).trans ?_)
      rw [hgrow.block k (by simp; omega) (fun hh => ?_)]
      · exact (Below.heap_alloc W3.drew _ k (by show k < W3.heap.size; omega)).trans (hbl k hk)
      · rw [← hh] at h2
        exact h2 rfl
theorem own_lt {w : World} {base : Nat} {v : Value} {L : List (Fld × Value)} (h : Rws w base v L) {k : Nat} (hk : v.ownBlock = some k) : base ≤ k ∧ k < w.heap.size := h.own.lt k hk
theorem far_of {w W3 w4 : World} {base q : Nat} {v : Value} {L : List (Fld × Value)} {A : Int} {F : Fld} {xa : Option Addr} {n xc : Nat} (hR0 : Rws w base v L) (hq : q < base) (hbs : base ≤ w.heap.size) (hf : FldAt W3 w.heap.size F.tag F.text F.num (.slice xa n xc)) (hqb : W3.heap[q]? = some (.cells #[v, .int .i64 A, .int .i64 0] 68)) (hgrow : (W3.drew.alloc (.cells #[.int .i64 F.tag, .bool F.text, .int .u64 (F.num : Int), .slice xa n xc] 32)).grownBy w4 v.ownBlock) :
    FldAt w4 w.heap.size F.tag F.text F.num (.slice xa n xc) ∧ w4.heap[q]? = some (.cells #[v, .int .i64 A, .int .i64 0] 68) := by
  have h1 := lt_of_heap hf
  have h2 := lt_of_heap hqb
  constructor
  · refine (hgrow.block w.heap.size (by simp; omega) (fun hh => ?_)).trans ((Below.heap_alloc W3.drew _ w.heap.size h1).trans hf)
    have := (own_lt hR0 hh.symm).2
    omega
  · refine (hgrow.block q (by simp; omega) (fun hh => ?_)).trans ((Below.heap_alloc W3.drew _ q h2).trans hqb)
    have := (own_lt hR0 hh.symm).1
    omega
set_option maxRecDepth 20000 in
set_option maxHeartbeats 2000000 in
theorem keep_ok (F : Fld) (ad : Option Addr) (n cap : Nat) (w : World) (base q : Nat) (v : Value) (L : List (Fld × Value)) (A : Int) (h : WrAt w base q v L A 0) (hn : F.bytes.length = n) (hnum : F.num ≤ 18446744073709551615) (hz : flt F A = 0) (hby : Bytes w ad F.bytes) (h0 : F.bytes = [] → ad = none ∧ cap = 0) (hnl : n ≤ 140737488355328) (hL : L.length ≤ 1000) :
    Calls Try.prog 30 #[.pointer (some ⟨q, 0, none⟩), FV F.tag F.text F.num (.slice ad n cap)] w fun r w' => r = .returned (.pointer (some ⟨q, 0, none⟩)) ∧ ∃ g cap' bv, WrAt w' base q (.slice (some ⟨g, 0, none⟩) (L.length + 1) cap') (L ++ [(F, bv)]) F.tag 0 ∧ (v.ownBlock = some g ∨ w.heap.size ≤ g) ∧ Kept q (v.ownBlock.getD q) w w' ∧ ∀ k, bv.ownBlock = some k → w.heap.size ≤ k := by
  obtain ⟨i0, hi, hz0, hz1, hz2⟩ := info_parts Try.infoFd
  have HY : Hid (Bytes w ad F.bytes) := hby
  have H0 : Hid (F.bytes = [] → ad = none ∧ cap = 0) := h0
  obtain ⟨va, vn, vc, rfl⟩ : ∃ va vn vc, v = .slice va vn vc := by
    rcases h.row.own.2 with ⟨h5, _⟩ | ⟨g5, cap5, cur5, h5, _⟩
    · exact ⟨_, _, _, h5⟩
    · exact ⟨_, _, _, h5⟩
  have HR0 : Hid (Rws w base (.slice va vn vc) L) := h.row
  have HBK : Hid (w.heap[q]? = some (.cells #[.slice va vn vc, .int .i64 A, .int .i64 0] 68)) := h.blk
  obtain ⟨W, hW, h1, h2, h3, h4⟩ := box_of h F (.slice ad n cap)
  have HW : Hid (_ = W) := hW
  have HWR : Hid (WrAt W base q (.slice va vn vc) L A 0) := h1
  have HF : Hid (FldAt W w.heap.size F.tag F.text F.num (.slice ad n cap)) := h2
  have HB : Hid (Below w.heap.size w W ∧ W.heap.size = w.heap.size + 1) := ⟨h3, h4⟩
  have HQ : Hid (q < w.heap.size) := lt_of_heap h.blk
  have HN : Hid (F.bytes.length = n) := hn
  have HNUM : Hid (F.num ≤ 18446744073709551615) := hnum
  obtain ⟨_, c1, c2, _, _, _⟩ := h1.cells
  obtain ⟨b0, b1, b2, b3⟩ := h2.cells
  have HZ : Hid (flt F A = 0) := hz
  have HQB : Hid (q < base ∧ base ≤ w.heap.size) := ⟨h.qlt, h.bsz⟩
  have hq1 : ¬ w.heap.size = q := by have := HQ.out; omega
  have hq2 : ¬ q = w.heap.size := fun hh => hq1 hh.symm
  clear h h1 h2 h3 h4 hn hnum hz hby h0
  rw [← hW] at c2
  clear hW
  go_enter Try.func30, Try.ntmps30
  go_wp2
  rw [HW.out]
  go_region_held3 (fun w' => w'.cell? ⟨w.heap.size, 0, none⟩ = some (.int .i64 F.tag) ∧ w'.cell? ⟨w.heap.size, 1, none⟩ = some (.bool F.text) ∧ w'.cell? ⟨w.heap.size, 2, none⟩ = some (.int .u64 (F.num : Int)) ∧ w'.cell? ⟨w.heap.size, 3, none⟩ = some (.slice ad n cap) ∧ w'.cell? ⟨q, 1, none⟩ = some (.int .i64 A)) (go_keep) ((go_at_call 41; refine (check_at F A ad n cap _ HN.out HNUM.out).mono ?_; rw [HZ.out]; rintro r w1 ⟨rfl, hb1⟩; have hf1 : FldAt w1 w.heap.size F.tag F.text F.num (.slice ad n cap) := (show FldAt W.drew w.heap.size F.tag F.text F.num (.slice ad n cap) from HF.out).keep hb1; have hw1 : WrAt w1 base q (.slice va vn vc) L A 0 := (show WrAt W.drew base q (.slice va vn vc) L A 0 from HWR.out.drewN 1).keep hb1; obtain ⟨d0, d1, d2, d3⟩ := hf1.cells; obtain ⟨x0, x1, x2, x3, x4, x5⟩ := hw1.cells; have HF1 : Hid (FldAt w1 w.heap.size F.tag F.text F.num (.slice ad n cap)) := hf1; have HW1 : Hid (WrAt w1 base q (.slice va vn vc) L A 0) := hw1; have HB1 : Hid (Below W.heap.size W w1) := ((Below.refl W.heap.size W).drew).trans hb1; clear hb1 hf1 hw1))
  go_wp2_with (go_at_call 43; refine (clone_fld F.bytes ad n cap w1 HN.out (HY.out.keep (HB.out.1.trans (HB1.out.mono (by rw [HB.out.2]; omega)))) H0.out hnl).mono ?_; rintro r w2 ⟨v2, rfl, ho2, hb2⟩; obtain ⟨xa, xc, hv2, _, _, _, _⟩ := ho2.shape; rw [HN.out] at hv2; subst hv2; have hf2 := HF1.out.keep hb2; obtain ⟨_, _, _, y3⟩ := hf2.cells; have z3 := frozen_of_row _ _ 3 _ _ hf2; have HF2 : Hid (FldAt w2 w.heap.size F.tag F.text F.num (.slice ad n cap)) := hf2; have HO2 : Hid (Own w2 w1.heap.size (.slice xa n xc) F.bytes) := ho2; have HB2 : Hid (Below w1.heap.size w1 w2) := hb2; clear hf2 ho2 hb2)
  obtain ⟨W3, hW3⟩ : ∃ W3, w2.setCell ⟨w.heap.size, 3, none⟩ (.slice xa n xc) = W3 := ⟨_, rfl⟩
  rw [hW3]
  have hw1s : w.heap.size + 1 ≤ w1.heap.size := by have h5 := HB1.out.size; rw [HB.out.2] at h5; exact h5
  have hw2s : w1.heap.size ≤ w2.heap.size := HB2.out.size
  have hw3s : W3.heap.size = w2.heap.size := by rw [← hW3]; simp [World.setCell]
  have HBL : Hid (∀ k, k < w.heap.size → W3.heap[k]? = w.heap[k]?) := fun k hk => by
    rw [← hW3]
    exact (heap_setCell_other _ ⟨w.heap.size, 3, none⟩ k _ (by show k ≠ w.heap.size; omega)).trans ((HB2.out.block k (by omega)).trans ((HB1.out.block k (by rw [HB.out.2]; omega)).trans (HB.out.1.block k hk)))
  have HST : Hid (W3.os = w.os ∧ W3.tape = w.tape ∧ W3.output = w.output) := by
    rw [← hW3]
    exact ⟨HB2.out.os.trans (HB1.out.os.trans HB.out.1.os), HB2.out.tape.trans (HB1.out.tape.trans HB.out.1.tape), HB2.out.output.trans (HB1.out.output.trans HB.out.1.output)⟩
  have HR3 : Hid (Rws W3 base (.slice va vn vc) L) := HR0.out.same (fun k _ hk => HBL.out k hk)
  have hf3 : FldAt W3 w.heap.size F.tag F.text F.num (.slice xa n xc) := by rw [← hW3]; exact HF2.out.setBytes _
  have HO3 : Hid (Own W3 base (.slice xa n xc) F.bytes) := by
    rw [← hW3]
    refine ⟨HO2.out.1, World.ownsRow.mono (own_same HO2.out.2 (fun k hk => heap_setCell_other _ ⟨w.heap.size, 3, none⟩ k _ (by show k ≠ w.heap.size; omega))) ?_⟩
    have := HQB.out; omega
  have HQ3 : Hid (W3.heap[q]? = some (.cells #[.slice va vn vc, .int .i64 A, .int .i64 0] 68)) := (HBL.out q HQ.out).trans HBK.out
  have HF3 : Hid (FldAt W3 w.heap.size F.tag F.text F.num (.slice xa n xc)) := hf3
  have HR4 : Hid (Rws (W3.drew.alloc (.cells #[.int .i64 F.tag, .bool F.text, .int .u64 (F.num : Int), .slice xa n xc] 32)) base (.slice va vn vc) L) := (HR3.out.drewN 1).alloc _
  have HNW := news4 W3.drew F (.slice xa n xc) 32
  have hs4 : base ≤ (W3.drew.alloc (.cells #[.int .i64 F.tag, .bool F.text, .int .u64 (F.num : Int), .slice xa n xc] 32)).heap.size := by have := HQB.out; simp; omega
  have hb48 : (L.length + 1) * 48 ≤ 140737488355328 := by omega
  have c0 : W3.cell? ⟨q, 0, none⟩ = some (.slice va vn vc) := by rw [cell_of_row _ _ 0 _ _ _ HQ3.out]; rfl
  have c0d : W3.drew.cell? ⟨q, 0, none⟩ = some (.slice va vn vc) := c0
  have c0a : (W3.drew.alloc (.cells #[.int .i64 F.tag, .bool F.text, .int .u64 (F.num : Int), .slice xa n xc] 32)).cell? ⟨q, 0, none⟩ = some (.slice va vn vc) := by
    have h5 := lt_of_heap HQ3.out
    rw [← c0]
    exact World.cell?_of_block (w := W3) (a := ⟨q, 0, none⟩) (Below.heap_alloc W3.drew _ q h5)
  have c0b : (W3.alloc (.cells #[.int .i64 F.tag, .bool F.text, .int .u64 (F.num : Int), .slice xa n xc] 32)).cell? ⟨q, 0, none⟩ = some (.slice va vn vc) := c0a
  have hqW : ¬ q = W3.heap.size := by have h5 := lt_of_heap HQ3.out; omega
  have hqW2 : ¬ W3.heap.size = q := fun hh => hqW hh.symm
  have hsW : ¬ w.heap.size = W3.heap.size := by omega
  have hsW2 : ¬ W3.heap.size = w.heap.size := fun hh => hsW hh.symm
  have HWS : Hid (w.heap.size ≤ W3.heap.size) := by show _ ≤ _; omega
  obtain ⟨e0, e1, e2, e3⟩ := hf3.cells
  clear hf3 y3 z3 d0 d1 d2 d3 x0 x1 x2 x3 x4 x5 hw3s
  go_region_law ((refine step_append_lies _ (by rfl) _ _ 26 (by rfl) base 32 i0 _ 4 48 Try.underlying26 hi hz0 hz1 hz2 rfl (by decide) (.slice va vn vc) L.length (flat L) (by rfl) HR4.out.own ⟨W3.heap.size, 0, none⟩ 1 1 [.int .i64 F.tag, .bool F.text, .int .u64 (F.num : Int), .slice xa n xc] (by rfl) (by rfl) HNW (one4 F (.slice xa n xc) rfl) (by omega) (by unfold maxLen; omega) (by omega) hs4 (W3.heap.size + 1) (by simp) ?_; intro g4 cap4 w4 hown4 hgrow4 hat4 hlt4; obtain ⟨hf4, hq4⟩ := far_of HR0.out HQB.out.1 HQB.out.2 HF3.out HQ3.out hgrow4; obtain ⟨f0, f1, f2, f3⟩ := hf4.cells; have p0 : w4.cell? ⟨q, 0, none⟩ = some (.slice va vn vc) := (by rw [cell_of_row _ _ 0 _ _ _ hq4]; rfl); have p1 : w4.cell? ⟨q, 1, none⟩ = some (.int .i64 A) := (by rw [cell_of_row _ _ 1 _ _ _ hq4]; rfl); have p2 := frozen_of_row _ _ 0 _ _ hq4; have p3 := frozen_of_row _ _ 1 _ _ hq4; have HOW : Hid (_) := hown4; have HGR : Hid (_) := hgrow4; have HAT : Hid (_) := hat4; have HQ4 : Hid (_) := hq4; clear hown4 hgrow4 hat4 hq4 hf4))
  all_goals go_wp2
  all_goals go_ret
  all_goals (obtain ⟨k1, k2, k3⟩ := keep_fin HR0.out HQB.out.1 HQB.out.2 HBL.out HST.out HWS.out HO3.out HR3.out HOW.out HGR.out HAT.out HQ4.out (Nat.le_trans hs4 HGR.out.size); exact ⟨rfl, g4, cap4, _, k1, k2, k3, fun k hk => by have h9 := (HO2.out.2.lt k hk).1; omega⟩)
end Go.Proofs.Ytbdgiecnhgiogaa
