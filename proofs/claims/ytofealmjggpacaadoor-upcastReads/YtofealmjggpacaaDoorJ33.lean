/- Own texts, joined: Tlwr, Tlws. -/
import Derived.Test.YtofealmjggpacaaDoorJ31
import Derived.Test.YtofealmjggpacaaDoorJ29
import Derived.Deep.AppendLies
import Derived.Deep.RegionHeld3
import Derived.Deep.RegionLaw
namespace Go.Proofs.YtofealmjggpacaaDoor
open Go.ChangeShapes Go.WideShapes Go.ChangeAt Go.RowKit
set_option linter.unusedVariables false
/-- a writer: its fields (a row of its own), the last tag, the error -/
structure WrAt (w : World) (base q : Nat) (v : Value) (L : List (Fld × Value)) (A : Int) (e : Nat) : Prop where
  blk : w.heap[q]? = some (.cells #[v, .int .i64 A, .int .i64 (e : Int)] 219)
  row : Rws w base v L
  qlt : q < base
  bsz : base ≤ w.heap.size
theorem WrAt.cells {w : World} {base q : Nat} {v : Value} {L : List (Fld × Value)} {A : Int} {e : Nat} (h : WrAt w base q v L A e) : w.cell? ⟨q, 0, none⟩ = some v ∧ w.cell? ⟨q, 1, none⟩ = some (.int .i64 A) ∧ w.cell? ⟨q, 2, none⟩ = some (.int .i64 (e : Int)) ∧ w.frozen? ⟨q, 0, none⟩ = false ∧ w.frozen? ⟨q, 1, none⟩ = false ∧ w.frozen? ⟨q, 2, none⟩ = false :=
  ⟨by rw [cell_of_row _ _ 0 _ _ _ h.blk]; rfl, by rw [cell_of_row _ _ 1 _ _ _ h.blk]; rfl, by rw [cell_of_row _ _ 2 _ _ _ h.blk]; rfl, frozen_of_row _ _ 0 _ _ h.blk, frozen_of_row _ _ 1 _ _ h.blk, frozen_of_row _ _ 2 _ _ h.blk⟩
theorem WrAt.keep {w w' : World} {base q : Nat} {v : Value} {L : List (Fld × Value)} {A : Int} {e : Nat} (h : WrAt w base q v L A e) (hb : Below w.heap.size w w') : WrAt w' base q v L A e :=
  ⟨(hb.block q (lt_of_heap h.blk)).trans h.blk, h.row.same (fun k _ hk => hb.block k hk), h.qlt, Nat.le_trans h.bsz hb.size⟩
/-- keep's field in its box, the writer beside it -/
theorem box_of {w : World} {base q : Nat} {v : Value} {L : List (Fld × Value)} {A : Int} {e : Nat} (h : WrAt w base q v L A e) (F : Fld) (bv : Value) : ∃ W, w.alloc (.cells #[.int .i64 F.tag, .bool F.text, .int .u64 (F.num : Int), bv] 142) = W ∧ WrAt W base q v L A e ∧ FldAt W w.heap.size F.tag F.text F.num bv ∧ Below w.heap.size w W ∧ W.heap.size = w.heap.size + 1 :=
  have hb := (Below.refl w.heap.size w).alloc (Nat.le_refl _) (.cells #[.int .i64 F.tag, .bool F.text, .int .u64 (F.num : Int), bv] 142)
  ⟨_, rfl, h.keep hb, FldAt.new _ _ _ _ _, hb, by simp⟩
theorem WrAt.drewN {w : World} {base q : Nat} {v : Value} {L : List (Fld × Value)} {A : Int} {e : Nat} (h : WrAt w base q v L A e) (m : Nat) : WrAt (w.drewN m) base q v L A e := ⟨by simpa using h.blk, h.row.drewN m, h.qlt, by simpa using h.bsz⟩
theorem WrAt.set0 {w : World} {base q : Nat} {v : Value} {L : List (Fld × Value)} {A : Int} {e : Nat} (h : WrAt w base q v L A e) (e' : Nat) : WrAt ((w.setCell ⟨q, 0, none⟩ (.slice none 0 0)).setCell ⟨q, 2, none⟩ (.int .i64 (e' : Int))) base q (.slice none 0 0) [] A e' := by
  refine ⟨?_, Rws.nil _ _, h.qlt, by simpa [World.setCell] using h.bsz⟩
  have h1 := heap_setCell_same w q 0 _ _ (.slice none 0 0) h.blk
  have h2 := heap_setCell_same _ q 2 _ _ (.int .i64 (e' : Int)) h1
  exact h2
end Go.Proofs.YtofealmjggpacaaDoor
namespace Go.Proofs.YtofealmjggpacaaDoor
open Go.ChangeShapes Go.WideShapes Go.ChangeAt Go.RowKit
set_option linter.unusedVariables false
set_option maxRecDepth 20000 in
theorem clone_fld (l : List Nat) (ad : Option Addr) (n cap : Nat) (w : World) (hn : l.length = n) (hb : Bytes w ad l) (h0 : l = [] → ad = none ∧ cap = 0) (hl : n ≤ 140737488355328) :
    Calls Tryd.prog 112 #[.slice ad n cap] w fun r w' => ∃ v, r = .returned v ∧ Own w' w.heap.size v l ∧ Below w.heap.size w w' := by
  by_cases hc : l = []
  · obtain ⟨rfl, rfl⟩ := h0 hc
    subst hc
    simp only [List.length_nil] at hn
    subst hn
    clear hb h0 hl
    have he : ∀ w : World, (binOp .eql 22 (.slice none 0 0) (.slice none 0 0)).run Tryd.prog w = .ok (.bool true) w := fun _ => rfl
    go_enter Tryd.func112, Tryd.ntmps112
    go_wp2
    go_ret
    exact ⟨_, rfl, own_nil _ _, Below.refl _ _⟩
  · obtain ⟨b, off, rfl, _, _⟩ := hb.nonempty hc
    exact clone_any l b off n cap w hn (by rw [← hn]; exact List.length_pos_iff.2 hc) hb hl
/-- the field behind the row, the writer's cells written -/
theorem keep_fin {w W3 w4 : World} {base q : Nat} {v : Value} {L : List (Fld × Value)} {A : Int} {F : Fld} {xa : Option Addr} {n xc g cap' : Nat} (hR0 : Rws w base v L) (hq : q < base) (hbs : base ≤ w.heap.size) (hbl : ∀ k, k < w.heap.size → W3.heap[k]? = w.heap[k]?) (hst : W3.os = w.os ∧ W3.tape = w.tape ∧ W3.output = w.output) (hs3 : w.heap.size ≤ W3.heap.size) (hO3 : Own W3 base (.slice xa n xc) F.bytes) (hR3 : Rws W3 base v L)
    (hown : w4.ownsRow base 142 4 (.slice (some ⟨g, 0, none⟩) (L.length + 1) cap') (L.length + 1) (flat L ++ [.int .i64 F.tag, .bool F.text, .int .u64 (F.num : Int), .slice xa n xc])) (hgrow : (W3.drew.alloc (.cells #[.int .i64 F.tag, .bool F.text, .int .u64 (F.num : Int), .slice xa n xc] 142)).grownBy w4 v.ownBlock) (hat : v.ownBlock = some g ∨ g = W3.heap.size + 1) (hqb : w4.heap[q]? = some (.cells #[v, .int .i64 A, .int .i64 0] 219)) (hlt : base ≤ w4.heap.size) :
    WrAt ((w4.setCell ⟨q, 0, none⟩ (.slice (some ⟨g, 0, none⟩) (L.length + 1) cap')).setCell ⟨q, 1, none⟩ (.int .i64 F.tag)) base q (.slice (some ⟨g, 0, none⟩) (L.length + 1) cap') (L ++ [(F, .slice xa n xc)]) F.tag 0 ∧ (v.ownBlock = some g ∨ w.heap.size ≤ g) ∧ Kept q (v.ownBlock.getD q) w ((w4.setCell ⟨q, 0, none⟩ (.slice (some ⟨g, 0, none⟩) (L.length + 1) cap')).setCell ⟨q, 1, none⟩ (.int .i64 F.tag)) := by
  have hR4 : Rws (W3.drew.alloc (.cells #[.int .i64 F.tag, .bool F.text, .int .u64 (F.num : Int), .slice xa n xc] 142)) base v L := (hR3.drewN 1).alloc _
  have hO4 : Own (W3.drew.alloc (.cells #[.int .i64 F.tag, .bool F.text, .int .u64 (F.num : Int), .slice xa n xc] 142)) base (.slice xa n xc) F.bytes := own_app hO3 (((Below.refl _ _).drew).alloc (Nat.le_refl _) _)
  have hso : ∀ k, base ≤ k → ((w4.setCell ⟨q, 0, none⟩ (.slice (some ⟨g, 0, none⟩) (L.length + 1) cap')).setCell ⟨q, 1, none⟩ (.int .i64 F.tag)).heap[k]? = w4.heap[k]? := fun k hk =>
    (heap_setCell_other _ ⟨q, 1, none⟩ k _ (by show k ≠ q; omega)).trans (heap_setCell_other _ ⟨q, 0, none⟩ k _ (by show k ≠ q; omega))
  refine ⟨⟨?_, ⟨?_, ?_⟩, hq, by simpa [World.setCell] using hlt⟩, ?_, ?_⟩
  · have h1 := heap_setCell_same w4 q 0 _ _ (.slice (some ⟨g, 0, none⟩) (L.length + 1) cap') hqb
    have h2 := heap_setCell_same _ q 1 _ _ (.int .i64 F.tag) h1
    exact h2
  · rw [flat_append, List.length_append]
    exact own_same hown hso
  · intro p hp
    rcases List.mem_append.1 hp with h | h
    · have h1 := own_grown hR4.own hgrow (hR4.byt p h)
      exact ⟨h1.1, own_same h1.2 hso⟩
    · obtain rfl := List.mem_singleton.1 h
      have h1 := own_grown hR4.own hgrow hO4
      exact ⟨h1.1, own_same h1.2 hso⟩
  · rcases hat with h | h
    · exact .inl h
    · exact .inr (by omega)
  · refine ⟨hgrow.os.trans hst.1, hgrow.tape.trans hst.2.1, hgrow.output.trans hst.2.2, ?_, fun k hk h1 h2 => ?_⟩
    · have h5 := hgrow.size
      simp [World.setCell] at h5 ⊢
      omega
    · refine (heap_setCell_other _ ⟨q, 1, none⟩ k _ h1).trans ((heap_setCell_other _ ⟨q, 0, none⟩ k _ h1).trans ?_)
      rw [hgrow.block k (by simp; omega) (fun hh => ?_)]
      · exact (Below.heap_alloc W3.drew _ k (by show k < W3.heap.size; omega)).trans (hbl k hk)
      · rw [← hh] at h2
        exact h2 rfl
theorem own_lt {w : World} {base : Nat} {v : Value} {L : List (Fld × Value)} (h : Rws w base v L) {k : Nat} (hk : v.ownBlock = some k) : base ≤ k ∧ k < w.heap.size := h.own.lt k hk
theorem far_of {w W3 w4 : World} {base q : Nat} {v : Value} {L : List (Fld × Value)} {A : Int} {F : Fld} {xa : Option Addr} {n xc : Nat} (hR0 : Rws w base v L) (hq : q < base) (hbs : base ≤ w.heap.size) (hf : FldAt W3 w.heap.size F.tag F.text F.num (.slice xa n xc)) (hqb : W3.heap[q]? = some (.cells #[v, .int .i64 A, .int .i64 0] 219)) (hgrow : (W3.drew.alloc (.cells #[.int .i64 F.tag, .bool F.text, .int .u64 (F.num : Int), .slice xa n xc] 142)).grownBy w4 v.ownBlock) :
    FldAt w4 w.heap.size F.tag F.text F.num (.slice xa n xc) ∧ w4.heap[q]? = some (.cells #[v, .int .i64 A, .int .i64 0] 219) := by
  have h1 := lt_of_heap hf
  have h2 := lt_of_heap hqb
  constructor
  · refine (hgrow.block w.heap.size (by simp; omega) (fun hh => ?_)).trans ((Below.heap_alloc W3.drew _ w.heap.size h1).trans hf)
    have := (own_lt hR0 hh.symm).2
    omega
  · refine (hgrow.block q (by simp; omega) (fun hh => ?_)).trans ((Below.heap_alloc W3.drew _ q h2).trans hqb)
    have := (own_lt hR0 hh.symm).1
    omega
end Go.Proofs.YtofealmjggpacaaDoor
