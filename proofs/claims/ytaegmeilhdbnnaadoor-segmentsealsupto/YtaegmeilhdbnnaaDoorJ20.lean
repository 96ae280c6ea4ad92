/- Own texts, joined: Frd, Sc11. -/
import Derived.Test.YtaegmeilhdbnnaaDoorJ06
import Derived.Test.YtaegmeilhdbnnaaDoorJ04
import Derived.Test.YtaegmeilhdbnnaaDoorJ07
import Derived.Test.YtaegmeilhdbnnaaDoorJ19
import Derived.Deep.AppendLies
import Derived.Test.YtaegmeilhdbnnaaDoorJ08
namespace Go.Proofs.YtaegmeilhdbnnaaDoor
open Go.ChangeShapes Go.WideShapes Go.ChangeAt Go.RowKit
set_option linter.unusedVariables false
theorem FrmAt.setBody {w : World} {k : Nat} {kind seq : Int} {bv : Value} (h : FrmAt w k kind seq bv) (v : Value) : FrmAt (w.setCell ⟨k, 2, none⟩ v) k kind seq v := by
  unfold FrmAt; rw [heap_setCell_same w k 2 _ _ _ h]; rfl
theorem own_setBody {w : World} {base k n : Nat} {kind seq : Int} {bv v : Value} {xs : List Value} (ho : w.ownsRow base 5 1 v n xs) (h : FrmAt w k kind seq bv) (x : Value) : (w.setCell ⟨k, 2, none⟩ x).ownsRow base 5 1 v n xs := by
  refine ⟨ho.1, ?_⟩
  rcases ho.2 with h2 | ⟨g, cap, cur, h3, h4, h5, h6⟩
  · exact .inl h2
  · refine .inr ⟨g, cap, cur, h3, h4, ?_, h6⟩
    have hne : g ≠ k := by
      intro hgk
      subst hgk
      unfold FrmAt at h
      rw [h5] at h
      cases h
    rw [heap_setCell_other w ⟨k, 2, none⟩ g x hne]
    exact h5
theorem xor255 (x : Nat) (h : x < 256) : bits .xor .u8 (x : Int) 255 = ((x ^^^ 255 : Nat) : Int) ∧ x ^^^ 255 < 256 := by
  refine ⟨?_, ?_⟩
  · have := u8_xor_nat x 255 h (by omega)
    exact this
  · exact Nat.xor_lt_two_pow (n := 8) h (by omega)
theorem body_grown {wo wb w9 : World} {B k N : Nat} {kind seq : Int} {v v9 : Value} {u : List Nat} (ho : wb.ownsRow B 5 1 v N (B8 u)) (hf : FrmAt wb k kind seq v) (hbb : Below wo.heap.size wo wb) (hB : wo.heap.size ≤ B) (hk : wo.heap.size ≤ k)
    (ho9 : w9.ownsRow B 5 1 v9 (N + 1) (B8 u ++ [.int .u8 204])) (hg9 : (wb.alloc (.cells #[.int .u8 204] 5)).grownBy w9 v.ownBlock) :
    ∃ g c, v9 = .slice (some ⟨g, 0, none⟩) (N + 1) c ∧ FrmAt w9 k kind seq v ∧ w9.frozen? ⟨k, 2, none⟩ = false ∧ (w9.setCell ⟨k, 2, none⟩ v9).ownsRow B 5 1 v9 (N + 1) (B8 (u ++ [204])) ∧ FrmAt (w9.setCell ⟨k, 2, none⟩ v9) k kind seq v9 ∧ Below wo.heap.size wo (w9.setCell ⟨k, 2, none⟩ v9) := by
  obtain ⟨g, c, hv, _, _⟩ := World.ownsRow.form ho9 (by omega)
  have hoa := World.ownsRow.alloc ho (.cells #[.int .u8 204] 5)
  have hfa : FrmAt (wb.alloc (.cells #[.int .u8 204] 5)) k kind seq v := hf.keep ((Below.refl _ _).alloc (Nat.le_refl _) _)
  have hf9 : FrmAt w9 k kind seq v := hfa.grown hoa hg9
  have hba := hbb.alloc hbb.size (.cells #[.int .u8 204] 5)
  have hb9 : Below wo.heap.size wo w9 := hba.grown hg9 hba.size (fun j hj => Nat.le_trans hB (hoa.lt j hj).1)
  refine ⟨g, c, hv, hf9, frozen_of_row _ _ 2 _ _ hf9, ?_, hf9.setBody v9, hb9.setCell (p := ⟨k, 2, none⟩) hk v9⟩
  have h := own_setBody ho9 hf9 v9
  rw [B8_append]
  exact h
theorem decB_le (l : List Nat) : (decB l).length ≤ 16384 := by
  unfold decB
  by_cases h2 : decE l = 0
  · rw [if_pos h2]
    have := (peekE_zero (decE_zero h2).1).2.2.2.1
    rw [List.length_take]
    omega
  · rw [if_neg h2]; simp
end Go.Proofs.YtaegmeilhdbnnaaDoor
namespace Go.Proofs.YtaegmeilhdbnnaaDoor
open Go.ChangeShapes Go.WideShapes Go.ChangeAt Go.RowKit Go.Shelf
set_option linter.unusedVariables false
/-- W' is W but for what lies from lo on and below hi -/
structure Btw (lo hi : Nat) (W W' : World) : Prop where
  low : Below lo W W'
  up : ∀ k, hi ≤ k → k < W.heap.size → W'.heap[k]? = W.heap[k]?
theorem Btw.refl (lo hi : Nat) (W : World) : Btw lo hi W W := ⟨Below.refl _ _, fun _ _ _ => rfl⟩
theorem Btw.set {lo hi : Nat} {W W' : World} (h : Btw lo hi W W') (g j : Nat) (u : Value) (h1 : lo ≤ g) (h2 : g < hi) : Btw lo hi W (W'.setCell ⟨g, j, none⟩ u) :=
  ⟨h.low.setCell (p := ⟨g, j, none⟩) h1 _, fun k h3 h4 => (heap_setCell_other W' ⟨g, j, none⟩ k u (by simp only; omega)).trans (h.up k h3 h4)⟩
/-- what a call owned keeps where its own blocks are not touched -/
theorem row_same {W W' : World} {base size n : Nat} {e : TypeId} {v : Value} {xs : List Value} (h : W.ownsRow base e size v n xs) (hs : ∀ k, base ≤ k → k < W.heap.size → W'.heap[k]? = W.heap[k]?) : W'.ownsRow base e size v n xs := by
  refine ⟨h.1, ?_⟩
  rcases h.2 with h2 | ⟨g, cap, cur, h3, h4, h5, h6⟩
  · exact .inl h2
  · exact .inr ⟨g, cap, cur, h3, h4, (hs g h4 (lt_of_heap h5)).trans h5, h6⟩
theorem OwnP.same {W W' : World} {base : Nat} {v : Value} {xs : List It} (h : OwnP W base v xs) (hs : ∀ k, base ≤ k → k < W.heap.size → W'.heap[k]? = W.heap[k]?) : OwnP W' base v xs :=
  ⟨row_same h.1 hs, fun x hx => ⟨(h.2 x hx).1, row_same (h.2 x hx).2 hs⟩⟩
theorem plc_of {w : World} {base N c : Nat} {a : Option Addr} {xs : List It} (h : OwnP w base (.slice a N c) xs) (hl : xs.length = N) : PlcA w a xs := by
  obtain ⟨a2, c2, h1, h2⟩ := h.plc
  cases h1
  exact h2
/-- a body, whatever stands in it -/
def Some8 (W : World) (base : Nat) (v : Value) (n : Nat) : Prop := ∃ l : List Nat, l.length = n ∧ Own W base v l
theorem Some8.set {W : World} {base n : Nat} {v : Value} (h : Some8 W base v n) (g j b : Nat) (hb : b < 256) : Some8 (W.setCell ⟨g, j, none⟩ (.int .u8 (b : Int))) base v n := by
  obtain ⟨l, hl, h1, h2⟩ := h
  rcases h2.2 with ⟨h3, h4⟩ | ⟨g1, cap, cur, h3, h4, h5, h6⟩
  · exact ⟨l, hl, h1, h2.1, .inl ⟨h3, h4⟩⟩
  · by_cases hg : g1 = g
    · subst hg
      subst h3
      have hst := (h2.stored j (.int .u8 (b : Int))).1
      rw [← B8_set] at hst
      refine ⟨l.set j b, by rw [List.length_set]; exact hl, ?_, by rw [List.length_set]; exact hst⟩
      refine getD_lt fun y hy => ?_
      rcases List.mem_or_eq_of_mem_set hy with h | h
      · obtain ⟨i, hi, rfl⟩ := List.mem_iff_getElem.1 h
        have := h1 i
        simpa [List.getD_eq_getElem?_getD, hi] using this
      · rw [h]; exact hb
    · exact ⟨l, hl, h1, h2.1, .inr ⟨g1, cap, cur, h3, h4, (heap_setCell_other W ⟨g, j, none⟩ g1 _ hg).trans h5, h6⟩⟩
/-- what holds where the bodies of xs are written over -/
structure BI (lo hi : Nat) (v : Value) (xs : List It) (W W' : World) : Prop where
  btw : Btw lo hi W W'
  row : W'.ownsRow lo 67 5 v xs.length (pflt xs)
  byt : ∀ x ∈ xs, Some8 W' lo x.bv x.fm.body.length
  lts : ∀ x ∈ xs, ∀ g, x.bv.ownBlock = some g → g < hi
theorem BI.start {lo : Nat} {v : Value} {xs : List It} {w3 W : World} (h : OwnP w3 lo v xs) (hb : Below w3.heap.size w3 W) : BI lo w3.heap.size v xs W W :=
  ⟨Btw.refl _ _ _, own_below h.1 hb, fun x hx => ⟨x.fm.body, rfl, (h.2 x hx).1, own_below (h.2 x hx).2 hb⟩, fun x hx g hg => ((h.2 x hx).2.lt g hg).2⟩
theorem BI.set {lo hi : Nat} {v : Value} {xs : List It} {W W' : World} (h : BI lo hi v xs W W') {x : It} (hx : x ∈ xs) {g n c : Nat} (hg : x.bv = .slice (some ⟨g, 0, none⟩) n c) (j b : Nat) (hb : b < 256) : BI lo hi v xs W (W'.setCell ⟨g, j, none⟩ (.int .u8 (b : Int))) := by
  have hgb : x.bv.ownBlock = some g := by rw [hg]; simp [Value.ownBlock]
  obtain ⟨l, _, h1, h2⟩ := h.byt x hx
  have hlo := (h2.lt g hgb).1
  have hhi := h.lts x hx g hgb
  refine ⟨h.btw.set g j _ hlo hhi, ?_, fun y hy => (h.byt y hy).set g j b hb, h.lts⟩
  refine ⟨h.row.1, ?_⟩
  rcases h.row.2 with h3 | ⟨g1, cap, cur, h3, h4, h5, h6⟩
  · exact .inl h3
  · refine .inr ⟨g1, cap, cur, h3, h4, ?_, h6⟩
    rw [heap_setCell_other W' ⟨g, j, none⟩ g1 _ ?_]
    · exact h5
    · simp only
      rintro rfl
      rcases h2.2 with ⟨h7, _⟩ | ⟨g2, cap2, cur2, h7, _, h8, _⟩
      · rw [h7] at hg; cases hg
      · rw [h7] at hg
        cases hg
        rw [h5] at h8
        cases h8
/-- the k-th frame's body -/
theorem BI.at {lo hi : Nat} {v : Value} {xs : List It} {W W' : World} (h : BI lo hi v xs W W') (k : Nat) (x : It) (hx : xs[k]? = some x) : ∃ g c, v = .slice (some ⟨g, 0, none⟩) xs.length c ∧ g < W'.heap.size ∧ W'.cell? ⟨g, k * 5 + 4, none⟩ = some x.bv := by
  have hk := get_lt hx
  obtain ⟨g, c, hv, _, hlt⟩ := h.row.form (by omega)
  have hrow := h.row
  rw [hv] at hrow
  exact ⟨g, c, hv, hlt, (hrow.cellAt (k * 5 + 4) (by omega)).trans (pflt_get xs k x hx).2.2.2.2⟩
theorem BI.at2 {lo hi N c : Nat} {a : Option Addr} {xs : List It} {W W' : World} (h : BI lo hi (.slice a N c) xs W W') (k : Nat) (x : It) (hx : xs[k]? = some x) : ∃ g, a = some ⟨g, 0, none⟩ ∧ g < W'.heap.size ∧ W'.cell? ⟨g, k * 5 + 4, none⟩ = some x.bv := by
  obtain ⟨g, c2, hv, h1, h2⟩ := h.at k x hx
  cases hv
  exact ⟨g, rfl, h1, h2⟩
/-- the worlds of a law that writes over what it got -/
structure HX2W (w2 w3 w4 w5 W wr : World) : Prop where
  s23 : w2.heap.size ≤ w3.heap.size
  s34 : w3.heap.size ≤ w4.heap.size
  s45 : w4.heap.size ≤ w5.heap.size
  s5W : w5.heap.size ≤ W.heap.size
  sWr : W.heap.size ≤ wr.heap.size
  b3W : Below w3.heap.size w3 W
  b5W : Below w5.heap.size w5 W
  btw : Btw w3.heap.size w4.heap.size W wr
theorem HX2W.hi {w2 w3 w4 w5 W wr wb : World} {lo : Nat} (h : HX2W w2 w3 w4 w5 W wr) (hb : Btw lo w2.heap.size wr wb) : ∀ k, w4.heap.size ≤ k → k < w5.heap.size → wb.heap[k]? = w5.heap[k]? := by
  intro k h1 h2
  have := h.s23
  have := h.s34
  have := h.s5W
  have := h.sWr
  exact (hb.up k (by omega) (by omega)).trans ((h.btw.up k h1 (by omega)).trans (h.b5W.block k h2))
theorem HX2W.lo {w2 w3 w4 w5 W wr wb : World} {lo : Nat} (h : HX2W w2 w3 w4 w5 W wr) (hb : Btw lo w2.heap.size wr wb) : ∀ k, w2.heap.size ≤ k → k < w3.heap.size → wb.heap[k]? = w3.heap[k]? := by
  intro k h1 h2
  have := h.s34
  have := h.s45
  have := h.s5W
  have := h.sWr
  exact (hb.up k h1 (by omega)).trans ((h.btw.low.block k h2).trans (h.b3W.block k h2))
end Go.Proofs.YtaegmeilhdbnnaaDoor
