/- Own texts, joined: Sow, Sox. -/
import Derived.Test.YtlnhhgmdajbepaaJ44
import Derived.Test.YtlnhhgmdajbepaaK21
import Derived.ArgAppend
namespace Go.Proofs.Ytlnhhgmdajbepaa
open Go.ChangeShapes Go.WideShapes Go.ChangeAt Go.RowKit
set_option linter.unusedVariables false
set_option linter.unusedSimpArgs false
/-- a row of bytes of one's own, whatever is in it -/
def OwnB (y : World) (lo : Nat) (v : Value) (m : Nat) : Prop := (v = .slice none 0 0 ∧ m = 0) ∨ ∃ g c cur, v = .slice (some ⟨g, 0, none⟩) m c ∧ lo ≤ g ∧ y.heap[g]? = some (.cells cur 5) ∧ m ≤ c ∧ c ≤ maxLen ∧ cur.size = c
theorem OwnB.of {y : World} {lo : Nat} {v : Value} {m : Nat} {xs : List Value} (h : y.ownsRow lo 5 1 v m xs) : OwnB y lo v m := by
  rcases h.2 with h1 | ⟨g, c, cur, h1, h2, h3, h4, h5, h6, _⟩
  · exact .inl h1
  · exact .inr ⟨g, c, cur, h1, h2, h3, h4, h5, by omega⟩
theorem OwnB.lower {y : World} {lo hi : Nat} {v : Value} {m : Nat} (h : OwnB y hi v m) (hl : lo ≤ hi) : OwnB y lo v m := by
  rcases h with h | ⟨g, c, cur, h1, h2, h3⟩
  · exact .inl h
  · exact .inr ⟨g, c, cur, h1, Nat.le_trans hl h2, h3⟩
theorem OwnB.row {y : World} {lo : Nat} {v : Value} {m : Nat} (h : OwnB y lo v m) : ∃ xs, y.ownsRow lo 5 1 v m xs := by
  rcases h with ⟨rfl, rfl⟩ | ⟨g, c, cur, h1, h2, h3, h4, h5, h6⟩
  · exact ⟨[], rfl, .inl ⟨rfl, rfl⟩⟩
  · exact ⟨cur.toList.take (m * 1), by rw [List.length_take, Array.length_toList]; omega, .inr ⟨g, c, cur, h1, h2, h3, h4, h5, by omega, rfl⟩⟩
theorem OwnB.set {y : World} {lo : Nat} {v : Value} {m : Nat} (h : OwnB y lo v m) (g j : Nat) (u : Value) : OwnB (y.setCell ⟨g, j, none⟩ u) lo v m := by
  rcases h with h | ⟨g2, c, cur, h1, h2, h3, h4, h5, h6⟩
  · exact .inl h
  · by_cases e : g2 = g
    · subst e
      exact .inr ⟨g2, c, cur.setIfInBounds j u, h1, h2, heap_setCell_same y g2 j cur 5 u h3, h4, h5, by simpa using h6⟩
    · exact .inr ⟨g2, c, cur, h1, h2, (heap_setCell_other y ⟨g, j, none⟩ g2 _ e).trans h3, h4, h5, h6⟩
theorem OwnB.grown {y z : World} {lo : Nat} {v : Value} {m : Nat} (h : OwnB y lo v m) (hg : y.grownBy z none) : OwnB z lo v m := by
  rcases h with h | ⟨g, c, cur, h1, h2, h3, h4⟩
  · exact .inl h
  · exact .inr ⟨g, c, cur, h1, h2, (hg.block g (lt_of_heap h3) (by simp)).trans h3, h4⟩
/-- one byte put behind a row of one's own -/
theorem run_app1 (w : World) {lo : Nat} {dv : Value} {m : Nat} (h : OwnB w lo dv m) (ty : TypeId) {i : TypeInfo} (hi : Try.prog.info? 5 = some i) (hz0 : i.zero = some (.int .u8 0)) (hz1 : i.size = 1) (hz2 : i.bytes = 1) (gx : Nat) (z : Int) (hx : w.heap[gx]? = some (.cells #[.int .u8 z] 5)) (hm : m ≤ 1073741824) (hlo : lo ≤ w.heap.size) :
    ∃ v' w', (Builtin.append_ #[31, 31] ty #[dv, .slice (some ⟨gx, 0, none⟩) 1 1]).run Try.prog w = .ok v' w' ∧ OwnB w' lo v' (m + 1) ∧ v'.oneCell' = true ∧
      ((∃ g j u, dv.ownBlock = some g ∧ v'.ownBlock = some g ∧ w' = w.setCell ⟨g, j, none⟩ u) ∨ (w.grownBy w' none ∧ ∀ g, v'.ownBlock = some g → w.heap.size ≤ g)) := by
  have hc : ∀ j u, [Value.int .u8 z][j]? = some u → w.cell? ((⟨gx, 0, none⟩ : Addr).add j) = some u := fun j u hj => by
    match j, hj with
    | 0, hj =>
      have e : (⟨gx, 0, none⟩ : Addr).add 0 = ⟨gx, 0, none⟩ := by simp [Addr.add]
      rw [e, cell_of_row _ _ 0 _ _ _ hx]
      exact hj
    | j + 1, hj => simp at hj
  have h1c : ∀ u ∈ [Value.int .u8 z], u.oneCell' = true := fun u hu => by rw [List.mem_singleton.1 hu]; rfl
  have new : ∀ (base : Nat) (v' : Value) (w' : World) (xs : List Value), lo ≤ base ∨ True → w'.ownsRow w.heap.size 5 1 v' (m + 1) xs → w.grownBy w' none → (lo ≤ w.heap.size) → OwnB w' lo v' (m + 1) ∧ v'.oneCell' = true ∧ ((∃ g j u, dv.ownBlock = some g ∧ v'.ownBlock = some g ∧ w' = w.setCell ⟨g, j, none⟩ u) ∨ (w.grownBy w' none ∧ ∀ g, v'.ownBlock = some g → w.heap.size ≤ g)) := fun base v' w' xs _ r1 r2 hl =>
    ⟨(OwnB.of r1).lower hl, by obtain ⟨g, c, e⟩ := row_shape r1; rw [e]; exact slice_one _ _ _, .inr ⟨r2, fun g hg => (r1.lt g hg).1⟩⟩
  rcases h with ⟨rfl, rfl⟩ | ⟨g, c, cur, rfl, h2, h3, h4, h5, h6⟩
  · obtain ⟨v', w', hrun, r1, r2, _⟩ := run_append_own (P := Try.prog) w w.heap.size 31 ty 5 i (.int .u8 0) 1 1 Try.underlying31 hi hz0 hz1 hz2 rfl (by decide) (.slice none 0 0) 0 [] (World.ownsRow_nil w _ 5 1) ⟨gx, 0, none⟩ 1 1 [.int .u8 z] rfl hc h1c (by unfold maxLen; omega) (by omega) (Nat.le_refl _)
    refine ⟨v', w', hrun, ?_, ?_, .inr ⟨r2, fun g hg => (r1.lt g hg).1⟩⟩
    · exact (OwnB.of r1).lower hlo
    · obtain ⟨g, c, e⟩ := row_shape r1; rw [e]; exact slice_one _ _ _
  · have hlt := lt_of_heap h3
    by_cases hr : m + 1 ≤ c
    · have hcell : ∀ j, j < ([Value.int .u8 z] : List Value).length → (w.cell? ⟨g, 0 + m * i.size + j, none⟩).isSome = true := fun j hj => by
        have hj0 : j = 0 := by simpa using hj
        subst hj0
        rw [hz1, cell_of_row _ _ _ _ _ _ h3]
        rw [Array.getElem?_eq_getElem (by omega)]
        rfl
      have hrun := run_append_room_cells (P := Try.prog) w 31 ty 5 i Try.underlying31 hi g 0 m c ⟨gx, 0, none⟩ 1 1 [.int .u8 z] (by rw [hz1]; rfl) hc h1c hr hcell (fun j hj => frozen_of_row _ _ _ _ _ h3)
      refine ⟨_, _, hrun, ?_, slice_one _ _ _, .inl ⟨g, 0 + m * i.size, .int .u8 z, rfl, rfl, rfl⟩⟩
      have h9 := (show OwnB w lo (.slice (some ⟨g, 0, none⟩) (m + 1) c) (m + 1) from .inr ⟨g, c, cur, rfl, h2, h3, hr, h5, h6⟩).set g (0 + m * i.size) (.int .u8 z)
      exact h9
    · obtain ⟨v', w', hrun, r1, r2⟩ := run_append_arg_grows (P := Try.prog) w 31 ty 5 i (.int .u8 0) 1 1 Try.underlying31 hi hz0 hz1 hz2 rfl (by decide) ⟨g, 0, none⟩ m c (cur.toList.take m) (by rw [List.length_take, Array.length_toList]; omega) (fun j u hj => by
        have e : (⟨g, 0, none⟩ : Addr).add j = ⟨g, j, none⟩ := by rw [Addr.add_lit, Nat.zero_add]
        rw [e, cell_of_row _ _ _ _ _ _ h3, ← Array.getElem?_toList]
        rw [List.getElem?_take] at hj
        split at hj
        · exact hj
        · cases hj) ⟨gx, 0, none⟩ 1 1 [.int .u8 z] rfl hc (by omega) (by unfold maxLen; omega) (by omega)
      obtain ⟨h7, h8, h9⟩ := new 0 v' w' _ (.inr trivial) r1 r2 (by omega)
      exact ⟨v', w', hrun, h7, h8, h9⟩
/-- files' rows while their bytes and names are written over: ds tells each file's bytes -/
structure MuN (x0 wr : World) (lo hi : Nat) (ds : List (Value × Nat)) (v : Value) (n : Nat) : Prop where
  os : wr.os = x0.os
  tape : wr.tape = x0.tape
  output : wr.output = x0.output
  size : wr.heap.size = x0.heap.size
  out : ∀ k, (k < lo ∨ hi ≤ k) → wr.heap[k]? = x0.heap[k]?
  row : ∃ cs, wr.ownsRow lo 49 3 v n cs ∧ ∀ i p, ds[i]? = some p → cs[i * 3 + 1]? = some p.1
  rb : ∀ g, v.ownBlock = some g → g < hi
  len : ds.length = n
  u8 : ∀ p ∈ ds, U8 wr lo hi p.1 p.2
theorem row_other {x y : World} {lo e sz : Nat} {v : Value} {n : Nat} {cs : List Value} (h : x.ownsRow lo e sz v n cs) (hs : ∀ g, v.ownBlock = some g → y.heap[g]? = x.heap[g]?) : y.ownsRow lo e sz v n cs := by
  refine ⟨h.1, ?_⟩
  rcases h.2 with h5 | ⟨g2, cap, cur, h5, h6, h7, h8⟩
  · exact .inl h5
  · exact .inr ⟨g2, cap, cur, h5, h6, (hs g2 (by rw [h5]; rfl)).trans h7, h8⟩
theorem MuN.byte {x0 wr : World} {lo hi : Nat} {ds : List (Value × Nat)} {v : Value} {n : Nat} (h : MuN x0 wr lo hi ds v n) {a : Option Addr} {m c : Nat} (hp : (.slice a m c, m) ∈ ds) (j : Nat) (hj : j < m) :
    ∃ g z, a = some ⟨g, 0, none⟩ ∧ wr.cell? ⟨g, j, none⟩ = some (.int .u8 z) ∧ wr.frozen? ⟨g, j, none⟩ = false ∧ ∀ y : Int, MuN x0 (wr.setCell ⟨g, j, none⟩ (.int .u8 y)) lo hi ds v n := by
  rcases h.u8 _ hp with ⟨_, h1⟩ | ⟨g, c2, xs, h1, h2, h3, h4⟩
  · simp only at h1; omega
  · simp only at h1 h3
    injection h1 with e1 e2 e3
    subst e1
    have hcell := h3.cellAt j (by omega)
    have hl := h3.1
    obtain ⟨x, hxj⟩ : ∃ x, xs[j]? = some x := ⟨_, List.getElem?_eq_getElem (by omega)⟩
    obtain ⟨z, rfl⟩ := h4 x (List.mem_of_getElem? hxj)
    have hlo := (h3.lt g rfl).1
    refine ⟨g, z, rfl, by rw [hcell]; exact hxj, h3.frozenAt j, fun y => ⟨h.os, h.tape, h.output, by simp [World.setCell]; exact h.size, fun k hk => (heap_setCell_other wr ⟨g, j, none⟩ k _ (show k ≠ g by omega)).trans (h.out k hk), ?_, h.rb, h.len, fun p hp => (h.u8 p hp).set⟩⟩
    obtain ⟨cs, hcs, hd⟩ := h.row
    refine ⟨cs, row_other hcs (fun g2 hg2 => heap_setCell_other wr ⟨g, j, none⟩ g2 _ (fun e => ?_)), hd⟩
    obtain ⟨c9, e9⟩ := row_type h3 rfl
    obtain ⟨c8, e8⟩ := row_type hcs hg2
    change g2 = g at e
    rw [e, e9] at e8
    injection e8 with h7
    injection h7 with _ h7
    cases h7
theorem MuN.at {x0 wr : World} {lo hi : Nat} {ds : List (Value × Nat)} {v : Value} {n : Nat} (h : MuN x0 wr lo hi ds v n) {i : Nat} {p : Value × Nat} (hp : ds[i]? = some p) : ∃ g c, v = .slice (some ⟨g, 0, none⟩) n c ∧ n ≤ c ∧ wr.cell? ⟨g, i * 3 + 1, none⟩ = some p.1 ∧ (wr.cell? ⟨g, i * 3, none⟩).isSome = true ∧ wr.frozen? ⟨g, i * 3, none⟩ = false ∧ ∀ u : Value, MuN x0 (wr.setCell ⟨g, i * 3, none⟩ u) lo hi ds v n := by
  obtain ⟨cs, hcs, hd⟩ := h.row
  have hi := (List.getElem?_eq_some_iff.1 hp).1
  rw [h.len] at hi
  have hl := hcs.1
  rcases hcs.2 with ⟨_, h5⟩ | ⟨g2, cap, cur, h5, h6, h7, h8, _⟩
  · omega
  · subst h5
    have hc1 := hcs.cellAt (i * 3 + 1) (by omega)
    have hc0 := hcs.cellAt (i * 3) (by omega)
    refine ⟨g2, cap, rfl, h8, hc1.trans (hd i p hp), by rw [hc0, List.getElem?_eq_getElem (by omega)]; rfl, hcs.frozenAt (i * 3), fun u => ⟨h.os, h.tape, h.output, by simp [World.setCell]; exact h.size, fun k hk => (heap_setCell_other wr ⟨g2, i * 3, none⟩ k _ (show k ≠ g2 by have := h.rb g2 rfl; omega)).trans (h.out k hk), ⟨_, (hcs.stored (i * 3) u).1, fun i2 p2 h2 => ?_⟩, h.rb, h.len, fun p hp => ?_⟩⟩
    · rw [List.getElem?_set_ne (by omega)]
      exact hd i2 p2 h2
    · rcases h.u8 p hp with h9 | ⟨g, c, xs, h9, h10, h11, h12⟩
      · exact .inl h9
      · refine .inr ⟨g, c, xs, h9, h10, row_other h11 (fun g3 hg3 => heap_setCell_other wr ⟨g2, i * 3, none⟩ g3 _ (fun e => ?_)), h12⟩
        obtain ⟨c8, e8⟩ := row_type h11 hg3
        change g3 = g2 at e
        rw [e, h7] at e8
        injection e8 with e8
        injection e8 with _ e8
        cases e8
/-- files' rows while bytes are put behind theirs -/
structure MuP (x0 wr : World) (lo hi : Nat) (ds : List (Value × Nat)) (v : Value) (n : Nat) : Prop where
  os : wr.os = x0.os
  tape : wr.tape = x0.tape
  output : wr.output = x0.output
  size : x0.heap.size ≤ wr.heap.size
  out : ∀ k, k < x0.heap.size → (k < lo ∨ hi ≤ k) → wr.heap[k]? = x0.heap[k]?
  row : ∃ cs, wr.ownsRow lo 49 3 v n cs ∧ ∀ i p, ds[i]? = some p → cs[i * 3 + 1]? = some p.1
  rb : ∀ g, v.ownBlock = some g → g < hi
  len : ds.length = n
  own : ∀ p ∈ ds, OwnB wr lo p.1 p.2 ∧ ∀ g, p.1.ownBlock = some g → g < hi ∨ x0.heap.size ≤ g
  lo : lo ≤ hi ∧ hi ≤ x0.heap.size
theorem MuN.p {x0 wr : World} {lo hi : Nat} {ds : List (Value × Nat)} {v : Value} {n : Nat} (h : MuN x0 wr lo hi ds v n) (hl : lo ≤ hi ∧ hi ≤ x0.heap.size) : MuP wr wr lo hi ds v n :=
  ⟨rfl, rfl, rfl, Nat.le_refl _, fun _ _ _ => rfl, h.row, h.rb, h.len, fun p hp => by
    rcases h.u8 p hp with ⟨h1, h2⟩ | ⟨g, c, xs, h1, h2, h3, _⟩
    · exact ⟨.inl ⟨h1, h2⟩, fun g hg => by rw [h1] at hg; cases hg⟩
    · refine ⟨OwnB.of h3, fun g' hg => .inl ?_⟩
      rw [h1] at hg
      injection hg with hg
      rw [← hg]; exact h2, by rw [h.size]; exact hl⟩
theorem MuP.drew {x0 wr : World} {lo hi : Nat} {ds : List (Value × Nat)} {v : Value} {n : Nat} (h : MuP x0 wr lo hi ds v n) {y : World} (hb : Below wr.heap.size wr y) : MuP x0 y lo hi ds v n := by
  obtain ⟨cs, hcs, hd⟩ := h.row
  refine ⟨hb.os.trans h.os, hb.tape.trans h.tape, hb.output.trans h.output, Nat.le_trans h.size hb.size, fun k hk hk2 => (hb.block k (Nat.lt_of_lt_of_le hk h.size)).trans (h.out k hk hk2), ⟨cs, ownRow_keep hcs hb, hd⟩, h.rb, h.len, fun p hp => ⟨?_, (h.own p hp).2⟩, h.lo⟩
  rcases (h.own p hp).1 with h1 | ⟨g, c, cur, h1, h2, h3, h4⟩
  · exact .inl h1
  · exact .inr ⟨g, c, cur, h1, h2, (hb.block g (lt_of_heap h3)).trans h3, h4⟩
end Go.Proofs.Ytlnhhgmdajbepaa
namespace Go.Proofs.Ytlnhhgmdajbepaa
open Go.ChangeShapes Go.WideShapes Go.ChangeAt Go.RowKit
set_option linter.unusedVariables false
set_option linter.unusedSimpArgs false
theorem MuP.at {x0 wr : World} {lo hi : Nat} {ds : List (Value × Nat)} {v : Value} {n : Nat} (h : MuP x0 wr lo hi ds v n) {i : Nat} {p : Value × Nat} (hp : ds[i]? = some p) : ∃ g c, v = .slice (some ⟨g, 0, none⟩) n c ∧ n ≤ c ∧ wr.cell? ⟨g, i * 3 + 1, none⟩ = some p.1 ∧ wr.frozen? ⟨g, i * 3 + 1, none⟩ = false := by
  obtain ⟨cs, hcs, hd⟩ := h.row
  have hi := (List.getElem?_eq_some_iff.1 hp).1
  rw [h.len] at hi
  rcases hcs.2 with ⟨_, h5⟩ | ⟨g2, cap, cur, h5, h6, h7, h8, _⟩
  · omega
  · subst h5
    exact ⟨g2, cap, rfl, h8, (hcs.cellAt (i * 3 + 1) (by omega)).trans (hd i p hp), hcs.frozenAt (i * 3 + 1)⟩
set_option maxRecDepth 100000 in
theorem MuP.app {x0 wr : World} {lo hi : Nat} {ds : List (Value × Nat)} {v : Value} {n : Nat} (h : MuP x0 wr lo hi ds v n) {i : Nat} {dv : Value} {m : Nat} (hp : ds[i]? = some (dv, m)) (hm : m ≤ 1073741824) (ty : TypeId) {i0 : TypeInfo} (hi0 : Try.prog.info? 5 = some i0) (hz0 : i0.zero = some (.int .u8 0)) (hz1 : i0.size = 1) (hz2 : i0.bytes = 1) (gx : Nat) (z : Int) (hx : wr.heap[gx]? = some (.cells #[.int .u8 z] 5)) :
    ∃ v' w', (Builtin.append_ #[31, 31] ty #[dv, .slice (some ⟨gx, 0, none⟩) 1 1]).run Try.prog wr = .ok v' w' ∧ v'.oneCell' = true ∧ MuP x0 w' lo hi ds v n ∧ ∀ gR c, v = .slice (some ⟨gR, 0, none⟩) n c → MuP x0 (w'.setCell ⟨gR, i * 3 + 1, none⟩ v') lo hi (ds.set i (v', m + 1)) v n := by
  obtain ⟨hob, hbl⟩ := h.own _ (List.mem_of_getElem? hp)
  simp only at hob hbl
  have hlo : lo ≤ wr.heap.size := by have := h.lo; have := h.size; omega
  obtain ⟨v', w', hrun, hob2, hone, hor⟩ := run_app1 wr hob ty hi0 hz0 hz1 hz2 gx z hx hm hlo
  have hdl : ∀ g, dv.ownBlock = some g → lo ≤ g ∧ ∃ cur, wr.heap[g]? = some (.cells cur 5) := fun g hg => by
    rcases hob with ⟨h1, _⟩ | ⟨g', c, cur, h1, h2, h3, _⟩
    · rw [h1] at hg; cases hg
    · rw [h1] at hg
      have : g' = g := by simpa [Value.ownBlock] using hg
      subst this
      exact ⟨h2, cur, h3⟩
  obtain ⟨cs, hcs, hd⟩ := h.row
  have hM : MuP x0 w' lo hi ds v n := by
    rcases hor with ⟨g, j, u, hg1, hg2, rfl⟩ | ⟨hg1, hg2⟩
    · obtain ⟨hgl, cur, hcur⟩ := hdl g hg1
      refine ⟨h.os, h.tape, h.output, by simp [World.setCell]; exact h.size, fun k hk hk2 => (heap_setCell_other wr ⟨g, j, none⟩ k _ (show k ≠ g by have := hbl g hg1; have := h.lo; omega)).trans (h.out k hk hk2), ⟨cs, row_other hcs (fun g2 hg3 => heap_setCell_other wr ⟨g, j, none⟩ g2 _ (fun e => ?_)), hd⟩, h.rb, h.len, fun p hp => ⟨(h.own p hp).1.set g j u, (h.own p hp).2⟩, h.lo⟩
      obtain ⟨c8, e8⟩ := row_type hcs hg3
      change g2 = g at e
      rw [e, hcur] at e8
      injection e8 with e8
      injection e8 with _ e8
      cases e8
    · refine ⟨hg1.os.trans h.os, hg1.tape.trans h.tape, hg1.output.trans h.output, Nat.le_trans h.size hg1.size, fun k hk hk2 => (hg1.block k (Nat.lt_of_lt_of_le hk h.size) (by simp)).trans (h.out k hk hk2), ⟨cs, row_other hcs (fun g2 hg3 => ?_), hd⟩, h.rb, h.len, fun p hp => ⟨(h.own p hp).1.grown hg1, (h.own p hp).2⟩, h.lo⟩
      obtain ⟨c8, e8⟩ := row_type hcs hg3
      exact hg1.block g2 (lt_of_heap e8) (by simp)
  refine ⟨v', w', hrun, hone, hM, fun gR c hv => ?_⟩
  obtain ⟨cs2, hcs2, hd2⟩ := hM.row
  subst hv
  have hgR := hM.rb gR rfl
  have hgl := (hcs2.lt gR rfl).1
  have hi := (List.getElem?_eq_some_iff.1 hp).1
  have hl2 := hcs2.1
  rw [h.len] at hi
  refine ⟨hM.os, hM.tape, hM.output, by simp [World.setCell]; exact hM.size, fun k hk hk2 => (heap_setCell_other w' ⟨gR, i * 3 + 1, none⟩ k _ (show k ≠ gR by omega)).trans (hM.out k hk hk2), ⟨_, (hcs2.stored (i * 3 + 1) v').1, fun i2 p2 h2 => ?_⟩, hM.rb, by rw [List.length_set]; exact hM.len, fun p hp2 => ?_, hM.lo⟩
  · by_cases e : i = i2
    · subst e
      rw [List.getElem?_set_self (by rw [h.len]; exact hi)] at h2
      rw [List.getElem?_set_self (by omega)]
      injection h2 with h2
      rw [← h2]
    · rw [List.getElem?_set_ne e] at h2
      rw [List.getElem?_set_ne (by omega)]
      exact hd2 i2 p2 h2
  · rcases List.mem_or_eq_of_mem_set hp2 with h5 | rfl
    · exact ⟨(hM.own p h5).1.set gR (i * 3 + 1) v', (hM.own p h5).2⟩
    · refine ⟨hob2.set gR (i * 3 + 1) v', fun g hg => ?_⟩
      rcases hor with ⟨g', j, u, hg1, hg2, _⟩ | ⟨hg1, hg2⟩
      · simp only at hg
        rw [hg2] at hg
        injection hg with hg
        rw [← hg]; exact hbl g' hg1
      · exact .inr (Nat.le_trans h.size (hg2 g hg))
theorem step_app1 {w : World} {ops : Array Oper} {o : Oper} {a : Act} {K : Act → World → Prop} {Q : Exit → Act → World → Prop} {E : Prop} (hgd : o.guard = none) (s x : Operand) (ho : o.op = .call { callee := .builtin .append, args := #[s, x], argTypes := #[31, 31] }) {sv xv v' : Value} {w' : World} (hs : a.eval s = sv) (hx : a.eval x = xv)
    (hrun : (Builtin.append_ #[31, 31] o.type #[sv, xv]).run Try.prog w = .ok v' w') (h : K (a.put o.dst v') w') : if Region.wanted o (yielded ops a.tmps) = true then Oper.wp Try.prog o a w K Q else E := by
  have hw : Region.wanted o (yielded ops a.tmps) = true := by simp [Region.wanted, hgd]
  rw [if_pos hw]
  unfold Oper.wp
  simp [execOp, ho, resolve, invoke, builtin, hs, hx, hrun, Result.andThen]
  exact h
theorem wpList_app1 {w : World} {ops : Array Oper} {rest : List Oper} {o : Oper} {a : Act} {Q : Exit → Act → World → Prop} (hgd : o.guard = none) (s x : Operand) (ho : o.op = .call { callee := .builtin .append, args := #[s, x], argTypes := #[31, 31] }) {sv xv v' : Value} {w' : World} (hs : a.eval s = sv) (hx : a.eval x = xv)
    (hrun : (Builtin.append_ #[31, 31] o.type #[sv, xv]).run Try.prog w = .ok v' w') (h : wpList Try.prog ops Q rest (a.put o.dst v') w') : wpList Try.prog ops Q (o :: rest) a w :=
  wpList_plain hgd fun K hK => by
    unfold Oper.wp
    simp [execOp, ho, resolve, invoke, builtin, hs, hx, hrun, Result.andThen]
    exact hK _ _ h
theorem readA_fs (A : Ak) (nm : List UInt8) (i n : Int) : (readA A nm i n).1.fs = A.fs := by
  unfold readA foundA
  split
  · split
    · rfl
    · dsimp only
      split <;> rfl
  · rfl
theorem read_G {x : World} {base q b : Nat} {A : Ak} {F : Nat → Prop} (h : DF x base q b A F) (ok : AkOk A) (nm : List UInt8) (hl : nm.length ≤ 281474976710656) (i n : Int) (hi1 : -9223372036854775808 ≤ i) (hi2 : i ≤ 9223372036854775807) (hn1 : -9223372036854775808 ≤ n) (hn2 : n ≤ 9223372036854775807) : Calls Try.prog 33 #[.pointer (some ⟨q, 0, none⟩), .string (bs nm), .int .i64 i, .int .i64 n] x fun r x' => ∃ v, r = .returned (.tuple #[v, .int .i64 ((readA A nm i n).2.2 : Nat)]) ∧ Own x' x.heap.size v (readA A nm i n).2.1 ∧ DF x' base q b (readA A nm i n).1 (fun k => F k ∨ (x.heap.size ≤ k ∧ k < x'.heap.size)) ∧ (∀ k, F k → x'.heap[k]? = x.heap[k]?) ∧ Below base x x' := by
  obtain ⟨D, hd, rfl, hF⟩ := h
  have ok' := ok.dk
  have fin : ∀ (x' : World) (A2 : Ak) (D' : Dk), DkAt x' base q b D' → D'.ab = A2 → D'.fs = D.fs → Chg q b D.fs D.fs x x' → DF x' base q b A2 (fun k => F k ∨ (x.heap.size ≤ k ∧ k < x'.heap.size)) ∧ (∀ k, F k → x'.heap[k]? = x.heap[k]?) ∧ Below base x x' := fun x' A2 D' h1 h2 h3 h4 => by
    refine ⟨⟨D', h1, h2, fun k hk => ?_⟩, fun k hk => h4.block k (hF k hk).1 (hF k hk).2, h4.to_below hd (Below.refl _ _) (Nat.le_trans hd.lo.1 (Nat.le_of_lt hd.lt.1))⟩
    rw [h3]
    rcases hk with hk | hk
    · exact ⟨Nat.lt_of_lt_of_le (hF k hk).1 h4.size, (hF k hk).2⟩
    · exact ⟨hk.2, fun ho => by have := (hd.ob ho).2; omega⟩
  by_cases hE : barE D [nm] ≠ 0 ∨ getN D.fs nm = none
  · unfold readA
    rw [(found_no hE _ _).1]
    exact (read_err x base q b D hd nm hl hE i n hi1 hi2 hn1 hn2).mono (fun r w' hr => ⟨_, hr.1, own_nil _ _, fin _ _ D (hd.keep hr.2) rfl rfl (.of_below hr.2)⟩)
  · have h1 : barE D [nm] = 0 := by apply Decidable.byContradiction; intro h2; exact hE (.inl h2)
    cases hN : getN D.fs nm with
    | none => exact absurd (.inr hN) hE
    | some f =>
      unfold readA
      rw [found_ok hN h1]
      by_cases hbad : i < 0 ∨ n < 0 ∨ (f.l.length : Int) < i ∨ (f.l.length : Int) - i < n
      · rw [if_pos (show i < 0 ∨ n < 0 ∨ (f.ab.l.length : Int) < i ∨ (f.ab.l.length : Int) - i < n from hbad)]
        exact (read_arg x base q b D hd ok' nm hl h1 f hN i n hi1 hi2 hn1 hn2 hbad).mono (fun r w' hr => ⟨_, hr.1, own_nil _ _, fin _ _ D (hd.keep hr.2) rfl rfl (.of_below hr.2)⟩)
      · rw [if_neg (show ¬ (i < 0 ∨ n < 0 ∨ (f.ab.l.length : Int) < i ∨ (f.ab.l.length : Int) - i < n) from hbad)]
        exact (read_ok x base q b D hd ok' nm hl h1 f hN i n hi1 hi2 hn1 hn2 (by omega) (by omega) (by omega) (by omega)).mono (fun r w' hr => by
          obtain ⟨v, e, ho1, hd2, hc⟩ := hr
          exact ⟨v, e, ho1, fin _ _ { D with read := wrap64 (D.read + n) } hd2 rfl rfl hc⟩)
set_option maxRecDepth 100000 in
set_option maxHeartbeats 2000000 in
theorem nil_find (nm : List UInt8) (w : World) : Calls Try.prog 57 #[.pointer none, .string (bs nm)] w fun r w' => r = .returned (.tuple #[fiV (.slice none 0 0) 0, .int .i64 1]) ∧ Below w.heap.size w w' := by
  have hb0 : Below w.heap.size w (w.alloc (.cells #[.slice none 0 0, .int .i64 0] 85)) := (Below.refl _ _).alloc (Nat.le_refl _) _
  have HF1 : Hid (FiAt ((w.alloc (.cells #[.slice none 0 0, .int .i64 0] 85)).alloc (.cells #[.string (bs nm)] 9)) w.heap.size (.slice none 0 0) 0) := (FiAt.new w _ _).keep ((Below.refl _ _).alloc (Nat.le_refl _) _)
  have HB1 : Hid (Below w.heap.size w ((w.alloc (.cells #[.slice none 0 0, .int .i64 0] 85)).alloc (.cells #[.string (bs nm)] 9))) := hb0.alloc hb0.size _
  clear hb0
  go_enter Try.func57, Try.ntmps57
  go_wp2_with (first
    | ((with_reducible refine guard_store 85 ?_); refine wpList_store_fi rfl _ _ rfl rfl HF1.out rfl rfl rfl (v2 := .slice none 0 0) (s2 := 0) ?_; intro x3 hf ho hh hs; have HF3 : Hid (FiAt x3 w.heap.size (.slice none 0 0) 0) := hf; have HB3 : Hid (Below w.heap.size w x3) := ho _ _ HB1.out (Nat.le_refl _); clear hf ho hh hs)
    | go_in)
  exact bodyPost_ret (results_fi2 rfl _ _ _ _ rfl rfl HF3.out) rfl ⟨rfl, HB3.out⟩
set_option maxRecDepth 100000 in
set_option maxHeartbeats 2000000 in
theorem nil_Read (w : World) : Calls Try.prog 33 #[.pointer none, .string ⟨#[97]⟩, .int .i64 0, .int .i64 0] w fun r w' => r = .returned (.tuple #[.slice none 0 0, .int .i64 1]) ∧ Below w.heap.size w w' := by
  have hB : Below w.heap.size w w := Below.refl _ _
  go_enter Try.func33, Try.ntmps33
  go_wp2_with (first
    | (go_at_call 57; refine (nil_find [97] _).mono ?_; rintro _ x1 ⟨rfl, hb1⟩; have HB1 : Hid (Below w.heap.size w x1) := hb1; clear hb1)
    | go_in)
  go_ret2
  exact ⟨rfl, by first | exact HB1.out | exact HB1.out.alloc HB1.out.size _⟩
set_option maxRecDepth 100000 in
set_option maxHeartbeats 2000000 in
theorem nil_Restart (w : World) : Calls Try.prog 32 #[.pointer none, .slice none 0 0] w fun r w' => r = .returned (.tuple #[]) ∧ Below w.heap.size w w' := by
  have hB : Below w.heap.size w w := Below.refl _ _
  go_enter Try.func32, Try.ntmps32
  go_wp2
  exact bodyPost_ret (results_none rfl _ _ _) rfl ⟨rfl, Below.refl _ _⟩
set_option maxRecDepth 100000 in
set_option maxHeartbeats 2000000 in
theorem nil_Fuse (w : World) : Calls Try.prog 36 #[.pointer none, .int .i64 1] w fun r w' => r = .returned (.tuple #[]) ∧ Below w.heap.size w w' := by
  have hB : Below w.heap.size w w := Below.refl _ _
  go_enter Try.func36, Try.ntmps36
  go_wp2
  go_end0
  exact ⟨rfl, by first | exact Below.refl _ _ | exact (Below.refl _ _).alloc (Nat.le_refl _) _ | exact ((Below.refl _ _).alloc (Nat.le_refl _) _).alloc (by simp) _ | (refine Below.alloc ?_ ?_ _ <;> first | (refine Below.alloc ?_ ?_ _ <;> first | exact Below.refl _ _ | simp) | simp)⟩
set_option maxRecDepth 100000 in
set_option maxHeartbeats 2000000 in
theorem nil_Down (w : World) : Calls Try.prog 34 #[.pointer none] w fun r w' => r = .returned (.bool false) ∧ Below w.heap.size w w' := by
  have hB : Below w.heap.size w w := Below.refl _ _
  go_enter Try.func34, Try.ntmps34
  go_wp2
  go_ret
  exact ⟨rfl, by first | exact Below.refl _ _ | exact (Below.refl _ _).alloc (Nat.le_refl _) _ | exact ((Below.refl _ _).alloc (Nat.le_refl _) _).alloc (by simp) _ | (refine Below.alloc ?_ ?_ _ <;> first | (refine Below.alloc ?_ ?_ _ <;> first | exact Below.refl _ _ | simp) | simp)⟩
set_option maxRecDepth 100000 in
set_option maxHeartbeats 2000000 in
theorem nil_Steps (w : World) : Calls Try.prog 37 #[.pointer none] w fun r w' => r = .returned (.int .i64 0) ∧ Below w.heap.size w w' := by
  have hB : Below w.heap.size w w := Below.refl _ _
  go_enter Try.func37, Try.ntmps37
  go_wp2
  go_ret
  exact ⟨rfl, by first | exact Below.refl _ _ | exact (Below.refl _ _).alloc (Nat.le_refl _) _ | exact ((Below.refl _ _).alloc (Nat.le_refl _) _).alloc (by simp) _ | (refine Below.alloc ?_ ?_ _ <;> first | (refine Below.alloc ?_ ?_ _ <;> first | exact Below.refl _ _ | simp) | simp)⟩
set_option maxRecDepth 100000 in
set_option maxHeartbeats 2000000 in
theorem nil_ReadBytes (w : World) : Calls Try.prog 41 #[.pointer none] w fun r w' => r = .returned (.int .i64 0) ∧ Below w.heap.size w w' := by
  have hB : Below w.heap.size w w := Below.refl _ _
  go_enter Try.func41, Try.ntmps41
  go_wp2
  go_ret
  exact ⟨rfl, by first | exact Below.refl _ _ | exact (Below.refl _ _).alloc (Nat.le_refl _) _ | exact ((Below.refl _ _).alloc (Nat.le_refl _) _).alloc (by simp) _ | (refine Below.alloc ?_ ?_ _ <;> first | (refine Below.alloc ?_ ?_ _ <;> first | exact Below.refl _ _ | simp) | simp)⟩
set_option maxRecDepth 100000 in
set_option maxHeartbeats 2000000 in
theorem nil_Sync (w : World) : Calls Try.prog 30 #[.pointer none, .string ⟨#[97]⟩] w fun r w' => r = .returned (.int .i64 1) ∧ Below w.heap.size w w' := by
  have hB : Below w.heap.size w w := Below.refl _ _
  go_enter Try.func30, Try.ntmps30
  go_wp2_with (first
    | (go_at_call 57; refine (nil_find [97] _).mono ?_; rintro _ x1 ⟨rfl, hb1⟩; have HB1 : Hid (Below w.heap.size w x1) := hb1; clear hb1)
    | go_in)
  go_ret
  exact ⟨rfl, by first | exact HB1.out | exact HB1.out.alloc HB1.out.size _⟩
set_option maxRecDepth 100000 in
set_option maxHeartbeats 2000000 in
theorem nil_Rename (w : World) : Calls Try.prog 39 #[.pointer none, .string ⟨#[97]⟩, .string ⟨#[98]⟩] w fun r w' => r = .returned (.int .i64 1) ∧ Below w.heap.size w w' := by
  have hB : Below w.heap.size w w := Below.refl _ _
  go_enter Try.func39, Try.ntmps39
  go_wp2
  go_ret
  exact ⟨rfl, by first | exact Below.refl _ _ | exact (Below.refl _ _).alloc (Nat.le_refl _) _ | exact ((Below.refl _ _).alloc (Nat.le_refl _) _).alloc (by simp) _ | (refine Below.alloc ?_ ?_ _ <;> first | (refine Below.alloc ?_ ?_ _ <;> first | exact Below.refl _ _ | simp) | simp)⟩
set_option maxRecDepth 100000 in
set_option maxHeartbeats 2000000 in
theorem nil_Remove (w : World) : Calls Try.prog 42 #[.pointer none, .string ⟨#[97]⟩] w fun r w' => r = .returned (.int .i64 1) ∧ Below w.heap.size w w' := by
  have hB : Below w.heap.size w w := Below.refl _ _
  go_enter Try.func42, Try.ntmps42
  go_wp2_with (first
    | (go_at_call 57; refine (nil_find [97] _).mono ?_; rintro _ x1 ⟨rfl, hb1⟩; have HB1 : Hid (Below w.heap.size w x1) := hb1; clear hb1)
    | go_in)
  go_ret
  exact ⟨rfl, by first | exact HB1.out | exact HB1.out.alloc HB1.out.size _⟩
set_option maxRecDepth 100000 in
set_option maxHeartbeats 2000000 in
theorem nil_Cut (w : World) : Calls Try.prog 43 #[.pointer none, .string ⟨#[97]⟩, .int .i64 0] w fun r w' => r = .returned (.int .i64 1) ∧ Below w.heap.size w w' := by
  have hB : Below w.heap.size w w := Below.refl _ _
  go_enter Try.func43, Try.ntmps43
  go_wp2_with (first
    | (go_at_call 57; refine (nil_find [97] _).mono ?_; rintro _ x1 ⟨rfl, hb1⟩; have HB1 : Hid (Below w.heap.size w x1) := hb1; clear hb1)
    | go_in)
  go_ret
  exact ⟨rfl, by first | exact HB1.out | exact HB1.out.alloc HB1.out.size _⟩
set_option maxRecDepth 100000 in
set_option maxHeartbeats 2000000 in
theorem nil_Create (w : World) : Calls Try.prog 26 #[.pointer none, .string ⟨#[97]⟩] w fun r w' => r = .returned (.int .i64 1) ∧ Below w.heap.size w w' := by
  have hB : Below w.heap.size w w := Below.refl _ _
  go_enter Try.func26, Try.ntmps26
  go_wp2
  go_ret
  exact ⟨rfl, by first | exact Below.refl _ _ | exact (Below.refl _ _).alloc (Nat.le_refl _) _ | exact ((Below.refl _ _).alloc (Nat.le_refl _) _).alloc (by simp) _ | (refine Below.alloc ?_ ?_ _ <;> first | (refine Below.alloc ?_ ?_ _ <;> first | exact Below.refl _ _ | simp) | simp)⟩
set_option maxRecDepth 100000 in
set_option maxHeartbeats 2000000 in
theorem nil_Append (w : World) : Calls Try.prog 28 #[.pointer none, .string ⟨#[97]⟩, .slice none 0 0] w fun r w' => r = .returned (.int .i64 1) ∧ Below w.heap.size w w' := by
  have hB : Below w.heap.size w w := Below.refl _ _
  go_enter Try.func28, Try.ntmps28
  go_wp2_with (first
    | (go_at_call 57; refine (nil_find [97] _).mono ?_; rintro _ x1 ⟨rfl, hb1⟩; have HB1 : Hid (Below w.heap.size w x1) := hb1; clear hb1)
    | go_in)
  go_ret
  exact ⟨rfl, by first | exact HB1.out | exact HB1.out.alloc HB1.out.size _⟩
set_option maxRecDepth 100000 in
set_option maxHeartbeats 2000000 in
theorem nil_Used (w : World) : Calls Try.prog 38 #[.pointer none] w fun r w' => r = .returned (.int .i64 0) ∧ Below w.heap.size w w' := by
  have hB : Below w.heap.size w w := Below.refl _ _
  go_enter Try.func38, Try.ntmps38
  go_wp2
  go_ret
  exact ⟨rfl, by first | exact Below.refl _ _ | exact (Below.refl _ _).alloc (Nat.le_refl _) _ | exact ((Below.refl _ _).alloc (Nat.le_refl _) _).alloc (by simp) _ | (refine Below.alloc ?_ ?_ _ <;> first | (refine Below.alloc ?_ ?_ _ <;> first | exact Below.refl _ _ | simp) | simp)⟩
set_option maxRecDepth 100000 in
set_option maxHeartbeats 2000000 in
theorem nil_Free (w : World) : Calls Try.prog 31 #[.pointer none] w fun r w' => r = .returned (.int .i64 0) ∧ Below w.heap.size w w' := by
  have hB : Below w.heap.size w w := Below.refl _ _
  go_enter Try.func31, Try.ntmps31
  go_wp2
  go_ret
  exact ⟨rfl, by first | exact Below.refl _ _ | exact (Below.refl _ _).alloc (Nat.le_refl _) _ | exact ((Below.refl _ _).alloc (Nat.le_refl _) _).alloc (by simp) _ | (refine Below.alloc ?_ ?_ _ <;> first | (refine Below.alloc ?_ ?_ _ <;> first | exact Below.refl _ _ | simp) | simp)⟩
set_option maxRecDepth 100000 in
set_option maxHeartbeats 2000000 in
theorem nil_List (w : World) : Calls Try.prog 35 #[.pointer none] w fun r w' => r = .returned (.slice none 0 0) ∧ Below w.heap.size w w' := by
  have hB : Below w.heap.size w w := Below.refl _ _
  go_enter Try.func35, Try.ntmps35
  go_wp2
  go_ret
  exact ⟨rfl, by first | exact Below.refl _ _ | exact (Below.refl _ _).alloc (Nat.le_refl _) _ | exact ((Below.refl _ _).alloc (Nat.le_refl _) _).alloc (by simp) _ | (refine Below.alloc ?_ ?_ _ <;> first | (refine Below.alloc ?_ ?_ _ <;> first | exact Below.refl _ _ | simp) | simp)⟩
set_option maxRecDepth 100000 in
set_option maxHeartbeats 2000000 in
theorem nil_Image (w : World) : Calls Try.prog 24 #[.pointer none] w fun r w' => r = .returned (.slice none 0 0) ∧ Below w.heap.size w w' := by
  have hB : Below w.heap.size w w := Below.refl _ _
  go_enter Try.func24, Try.ntmps24
  go_wp2
  go_ret
  exact ⟨rfl, by first | exact Below.refl _ _ | exact (Below.refl _ _).alloc (Nat.le_refl _) _ | exact ((Below.refl _ _).alloc (Nat.le_refl _) _).alloc (by simp) _ | (refine Below.alloc ?_ ?_ _ <;> first | (refine Below.alloc ?_ ?_ _ <;> first | exact Below.refl _ _ | simp) | simp)⟩
theorem row_cell {x : World} {lo e n c : Nat} {a : Option Addr} {cs : List Value} (h : x.ownsRow lo e 1 (.slice a n c) n cs) {i : Nat} (hi : i < n) : ∃ g, a = some ⟨g, 0, none⟩ ∧ lo ≤ g ∧ g < x.heap.size ∧ x.cell? ⟨g, i, none⟩ = cs[i]? ∧ x.frozen? ⟨g, i, none⟩ = false ∧ n ≤ c := by
  rcases h.2 with ⟨_, h5⟩ | ⟨g2, cap, cur, h5, h6, h7, h8, _⟩
  · omega
  · injection h5 with e1 _ e3
    subst e1 e3
    exact ⟨g2, rfl, h6, lt_of_heap h7, h.cellAt i (by omega), h.frozenAt i, h8⟩
theorem im_cell {x : World} {lo n c : Nat} {a : Option Addr} {X : List (Fa × Value)} (h : OwnIm x lo (.slice a n c) X) (hn : X.length = n) {i : Nat} {e : Fa × Value} (hi : X[i]? = some e) : ∃ g, a = some ⟨g, 0, none⟩ ∧ lo ≤ g ∧ g < x.heap.size ∧ x.cell? ⟨g, i * 3 + 1, none⟩ = some e.2 ∧ n ≤ c := by
  have hlt := (List.getElem?_eq_some_iff.1 hi).1
  have h1 := h.1
  rw [hn] at h1
  rcases h1.2 with ⟨_, h5⟩ | ⟨g2, cap, cur, h5, h6, h7, h8, _⟩
  · omega
  · injection h5 with e1 _ e3
    subst e1 e3
    exact ⟨g2, rfl, h6, lt_of_heap h7, (h1.cellAt (i * 3 + 1) (by omega)).trans (imfl_get X i e hi).2.1, h8⟩
theorem im_low {x : World} {lo n c g hi : Nat} {X : List (Fa × Value)} (h : OwnIm x lo (.slice (some ⟨g, 0, none⟩) n c) X) (hs : x.heap.size ≤ hi) : g < hi := Nat.lt_of_lt_of_le (h.1.lt g rfl).2 hs
end Go.Proofs.Ytlnhhgmdajbepaa
