/- Own texts, joined: Tlwr. -/
import Derived.Test.YtbdgiecnhgiogaaK13
import Derived.Test.YtbdgiecnhgiogaaK14
import Derived.Deep.AppendLies
import Derived.Deep.RegionHeld3
namespace Go.Proofs.Ytbdgiecnhgiogaa
open Go.ChangeShapes Go.WideShapes Go.ChangeAt Go.RowKit
set_option linter.unusedVariables false
/-- a writer: its fields (a row of its own), the last tag, the error -/
structure WrAt (w : World) (base q : Nat) (v : Value) (L : List (Fld × Value)) (A : Int) (e : Nat) : Prop where
  blk : w.heap[q]? = some (.cells #[v, .int .i64 A, .int .i64 (e : Int)] 68)
  row : Rws w base v L
  qlt : q < base
  bsz : base ≤ w.heap.size
theorem WrAt.cells {w : World} {base q : Nat} {v : Value} {L : List (Fld × Value)} {A : Int} {e : Nat} (h : WrAt w base q v L A e) : w.cell? ⟨q, 0, none⟩ = some v ∧ w.cell? ⟨q, 1, none⟩ = some (.int .i64 A) ∧ w.cell? ⟨q, 2, none⟩ = some (.int .i64 (e : Int)) ∧ w.frozen? ⟨q, 0, none⟩ = false ∧ w.frozen? ⟨q, 1, none⟩ = false ∧ w.frozen? ⟨q, 2, none⟩ = false :=
  ⟨by rw [cell_of_row _ _ 0 _ _ _ h.blk]; rfl, by rw [cell_of_row _ _ 1 _ _ _ h.blk]; rfl, by rw [cell_of_row _ _ 2 _ _ _ h.blk]; rfl, frozen_of_row _ _ 0 _ _ h.blk, frozen_of_row _ _ 1 _ _ h.blk, frozen_of_row _ _ 2 _ _ h.blk⟩
theorem WrAt.keep {w w' : World} {base q : Nat} {v : Value} {L : List (Fld × Value)} {A : Int} {e : Nat} (h : WrAt w base q v L A e) (hb : Below w.heap.size w w') : WrAt w' base q v L A e :=
  ⟨(hb.block q (lt_of_heap h.blk)).trans h.blk, h.row.same (fun k _ hk => hb.block k hk), h.qlt, Nat.le_trans h.bsz hb.size⟩
theorem neww_any (w : World) : Calls Try.prog 6 #[] w fun r w' => r = .returned (.pointer (some ⟨w.heap.size, 0, none⟩)) ∧ WrAt w' (w.heap.size + 1) w.heap.size (.slice none 0 0) [] 0 0 ∧ Below w.heap.size w w' := by
  go_enter Try.func6, Try.ntmps6
  go_wp2
  go_ret
  refine ⟨rfl, ⟨?_, Rws.nil _ _, Nat.lt_succ_self _, by simp⟩, (Below.refl _ _).alloc (Nat.le_refl _) _⟩
  simp only [World.alloc, Array.getElem?_push]
  rw [if_pos trivial]; rfl
/-- keep's field in its box, the writer beside it -/
theorem box_of {w : World} {base q : Nat} {v : Value} {L : List (Fld × Value)} {A : Int} {e : Nat} (h : WrAt w base q v L A e) (F : Fld) (bv : Value) : ∃ W, w.alloc (.cells #[.int .i64 F.tag, .bool F.text, .int .u64 (F.num : Int), bv] 32) = W ∧ WrAt W base q v L A e ∧ FldAt W w.heap.size F.tag F.text F.num bv ∧ Below w.heap.size w W ∧ W.heap.size = w.heap.size + 1 :=
  have hb := (Below.refl w.heap.size w).alloc (Nat.le_refl _) (.cells #[.int .i64 F.tag, .bool F.text, .int .u64 (F.num : Int), bv] 32)
  ⟨_, rfl, h.keep hb, FldAt.new _ _ _ _ _, hb, by simp⟩
set_option maxRecDepth 20000 in
set_option maxHeartbeats 400000 in
theorem keep_err (F : Fld) (bv : Value) (w : World) (base q : Nat) (v : Value) (L : List (Fld × Value)) (A : Int) (e : Nat) (h : WrAt w base q v L A e) (he : e ≠ 0) :
    Calls Try.prog 30 #[.pointer (some ⟨q, 0, none⟩), FV F.tag F.text F.num bv] w fun r w' => r = .returned (.pointer (some ⟨q, 0, none⟩)) ∧ WrAt w' base q v L A e ∧ Below w.heap.size w w' := by
  obtain ⟨W, hW, h1, h2, h3, h4⟩ := box_of h F bv
  have HW : Hid (_ = W) := hW
  have HWR : Hid (WrAt W base q v L A e) := h1
  have HB : Hid (Below w.heap.size w W) := h3
  obtain ⟨_, _, c2, _, _, _⟩ := h1.cells
  rw [← hW] at c2
  have heb : ((e : Int) != 0) = true := by simp; omega
  clear hW h1 h2 h3 h4 h
  go_enter Try.func30, Try.ntmps30
  go_wp2
  go_ret
  rw [HW.out]
  exact ⟨rfl, HWR.out, HB.out⟩
theorem WrAt.drewN {w : World} {base q : Nat} {v : Value} {L : List (Fld × Value)} {A : Int} {e : Nat} (h : WrAt w base q v L A e) (m : Nat) : WrAt (w.drewN m) base q v L A e := ⟨by simpa using h.blk, h.row.drewN m, h.qlt, by simpa using h.bsz⟩
theorem check_at (F : Fld) (A : Int) (ad : Option Addr) (n cap : Nat) (w : World) (hn : F.bytes.length = n) (hnum : F.num ≤ 18446744073709551615) :
    Calls Try.prog 41 #[FV F.tag F.text F.num (.slice ad n cap), .int .i64 A] w fun r w' => r = .returned (.int .i64 (flt F A : Int)) ∧ Below w.heap.size w w' := by
  subst hn
  exact check_any F A ad cap w hnum
set_option maxRecDepth 20000 in
set_option maxHeartbeats 1000000 in
theorem keep_zero (F : Fld) (ad : Option Addr) (n cap : Nat) (w : World) (base q : Nat) (v : Value) (L : List (Fld × Value)) (A : Int) (h : WrAt w base q v L A 0) (hn : F.bytes.length = n) (hnum : F.num ≤ 18446744073709551615) (hz : flt F A = 22) :
    Calls Try.prog 30 #[.pointer (some ⟨q, 0, none⟩), FV F.tag F.text F.num (.slice ad n cap)] w fun r w' => r = .returned (.pointer (some ⟨q, 0, none⟩)) ∧ WrAt w' base q v L A 0 ∧ Below w.heap.size w w' := by
  obtain ⟨W, hW, h1, h2, h3, h4⟩ := box_of h F (.slice ad n cap)
  have HW : Hid (_ = W) := hW
  have HWR : Hid (WrAt W base q v L A 0) := h1
  have HF : Hid (FldAt W w.heap.size F.tag F.text F.num (.slice ad n cap)) := h2
  have HB : Hid (Below w.heap.size w W ∧ W.heap.size = w.heap.size + 1) := ⟨h3, h4⟩
  have HQ : Hid (q < w.heap.size) := lt_of_heap h.blk
  have HN : Hid (F.bytes.length = n) := hn
  have HNUM : Hid (F.num ≤ 18446744073709551615) := hnum
  obtain ⟨_, c1, c2, _, _, _⟩ := h1.cells
  obtain ⟨b0, b1, b2, b3⟩ := h2.cells
  have HZ : Hid (flt F A = 22) := hz
  clear h h1 h2 h3 h4 hn hnum hz
  rw [← hW] at c2
  clear hW
  go_enter Try.func30, Try.ntmps30
  go_wp2
  rw [HW.out]
  go_region_held3 (fun w' => w'.cell? ⟨w.heap.size, 0, none⟩ = some (.int .i64 F.tag) ∧ w'.cell? ⟨w.heap.size, 1, none⟩ = some (.bool F.text) ∧ w'.cell? ⟨w.heap.size, 2, none⟩ = some (.int .u64 (F.num : Int)) ∧ w'.cell? ⟨w.heap.size, 3, none⟩ = some (.slice ad n cap) ∧ w'.cell? ⟨q, 1, none⟩ = some (.int .i64 A)) (go_keep) ((go_at_call 41; refine (check_at F A ad n cap _ HN.out HNUM.out).mono ?_; rw [HZ.out]; rintro r w1 ⟨rfl, hb1⟩; have hf1 : FldAt w1 w.heap.size F.tag F.text F.num (.slice ad n cap) := (show FldAt W.drew w.heap.size F.tag F.text F.num (.slice ad n cap) from HF.out).keep hb1; have hw1 : WrAt w1 base q v L A 0 := (show WrAt W.drew base q v L A 0 from HWR.out.drewN 1).keep hb1; obtain ⟨d0, d1, d2, d3⟩ := hf1.cells; obtain ⟨x0, x1, x2, x3, x4, x5⟩ := hw1.cells; have HF1 : Hid (FldAt w1 w.heap.size F.tag F.text F.num (.slice ad n cap)) := hf1; have HW1 : Hid (WrAt w1 base q v L A 0) := hw1; have HB1 : Hid (Below W.heap.size W w1) := ((Below.refl W.heap.size W).drew).trans hb1; clear hb1 hf1 hw1))
  go_wp2
  go_ret
  exact ⟨rfl, HW1.out, HB.out.1.trans (HB1.out.mono (by rw [HB.out.2]; omega))⟩
theorem WrAt.set0 {w : World} {base q : Nat} {v : Value} {L : List (Fld × Value)} {A : Int} {e : Nat} (h : WrAt w base q v L A e) (e' : Nat) : WrAt ((w.setCell ⟨q, 0, none⟩ (.slice none 0 0)).setCell ⟨q, 2, none⟩ (.int .i64 (e' : Int))) base q (.slice none 0 0) [] A e' := by
  refine ⟨?_, Rws.nil _ _, h.qlt, by simpa [World.setCell] using h.bsz⟩
  have h1 := heap_setCell_same w q 0 _ _ (.slice none 0 0) h.blk
  have h2 := heap_setCell_same _ q 2 _ _ (.int .i64 (e' : Int)) h1
  exact h2
set_option maxRecDepth 20000 in
set_option maxHeartbeats 1000000 in
theorem keep_bad (F : Fld) (ad : Option Addr) (n cap : Nat) (w : World) (base q : Nat) (v : Value) (L : List (Fld × Value)) (A : Int) (e : Nat) (h : WrAt w base q v L A 0) (hn : F.bytes.length = n) (hnum : F.num ≤ 18446744073709551615) (hz : flt F A = e) (he0 : e ≠ 0) (he1 : e ≠ 22) :
    Calls Try.prog 30 #[.pointer (some ⟨q, 0, none⟩), FV F.tag F.text F.num (.slice ad n cap)] w fun r w' => r = .returned (.pointer (some ⟨q, 0, none⟩)) ∧ WrAt w' base q (.slice none 0 0) [] A e ∧ Kept q q w w' := by
  obtain ⟨W, hW, h1, h2, h3, h4⟩ := box_of h F (.slice ad n cap)
  have HW : Hid (_ = W) := hW
  have HWR : Hid (WrAt W base q v L A 0) := h1
  have HF : Hid (FldAt W w.heap.size F.tag F.text F.num (.slice ad n cap)) := h2
  have HB : Hid (Below w.heap.size w W ∧ W.heap.size = w.heap.size + 1) := ⟨h3, h4⟩
  have HQ : Hid (q < w.heap.size) := lt_of_heap h.blk
  have HN : Hid (F.bytes.length = n) := hn
  have HNUM : Hid (F.num ≤ 18446744073709551615) := hnum
  obtain ⟨_, c1, c2, _, _, _⟩ := h1.cells
  obtain ⟨b0, b1, b2, b3⟩ := h2.cells
  have HZ : Hid (flt F A = e) := hz
  have heb : ¬ (e : Int) = 0 := by omega
  have heb2 : ¬ (e : Int) = 22 := by omega
  clear h h1 h2 h3 h4 hn hnum hz
  rw [← hW] at c2
  clear hW
  go_enter Try.func30, Try.ntmps30
  go_wp2
  rw [HW.out]
  go_region_held3 (fun w' => w'.cell? ⟨w.heap.size, 0, none⟩ = some (.int .i64 F.tag) ∧ w'.cell? ⟨w.heap.size, 1, none⟩ = some (.bool F.text) ∧ w'.cell? ⟨w.heap.size, 2, none⟩ = some (.int .u64 (F.num : Int)) ∧ w'.cell? ⟨w.heap.size, 3, none⟩ = some (.slice ad n cap) ∧ w'.cell? ⟨q, 1, none⟩ = some (.int .i64 A)) (go_keep) ((go_at_call 41; refine (check_at F A ad n cap _ HN.out HNUM.out).mono ?_; rw [HZ.out]; rintro r w1 ⟨rfl, hb1⟩; have hf1 : FldAt w1 w.heap.size F.tag F.text F.num (.slice ad n cap) := (show FldAt W.drew w.heap.size F.tag F.text F.num (.slice ad n cap) from HF.out).keep hb1; have hw1 : WrAt w1 base q v L A 0 := (show WrAt W.drew base q v L A 0 from HWR.out.drewN 1).keep hb1; obtain ⟨d0, d1, d2, d3⟩ := hf1.cells; obtain ⟨x0, x1, x2, x3, x4, x5⟩ := hw1.cells; have HF1 : Hid (FldAt w1 w.heap.size F.tag F.text F.num (.slice ad n cap)) := hf1; have HW1 : Hid (WrAt w1 base q v L A 0) := hw1; have HB1 : Hid (Below W.heap.size W w1) := ((Below.refl W.heap.size W).drew).trans hb1; clear hb1 hf1 hw1))
  go_wp2
  go_ret
  refine ⟨rfl, HW1.out.set0 e, ?_⟩
  have hk := HB.out.1.trans (HB1.out.mono (by rw [HB.out.2]; omega))
  exact ⟨hk.os, hk.tape, hk.output, by simp [World.setCell]; exact hk.size, fun k hk1 hk2 _ => (heap_setCell_other _ ⟨q, 2, none⟩ k _ hk2).trans ((heap_setCell_other _ ⟨q, 0, none⟩ k _ hk2).trans (hk.block k hk1))⟩
end Go.Proofs.Ytbdgiecnhgiogaa
