/- Own texts, joined: Osx, Cn8. -/
import Derived.Test.YtdmncbeloenihaaGreatK13
import Derived.Test.YtdmncbeloenihaaGreatK10
import Derived.Deep.Onto
import Derived.Deep.RegionLaw
import Derived.Deep.AppendLies
namespace Go.Proofs.YtdmncbeloenihaaGreat
open Go.ChangeShapes Go.WideShapes Go.ChangeAt Go.RowKit
set_option linter.unusedVariables false
theorem row_at {w w' : World} {base : Nat} {e : TypeId} {size : Nat} {v : Value} {n : Nat} {xs : List Value} (h : w.ownsRow base e size v n xs) (hs : ∀ g, v.ownBlock = some g → g < w.heap.size → w'.heap[g]? = w.heap[g]?) : w'.ownsRow base e size v n xs := by
  refine ⟨h.1, ?_⟩
  rcases h.2 with h2 | ⟨g, cap, cur, h3, h4, h5, h6⟩
  · exact .inl h2
  · exact .inr ⟨g, cap, cur, h3, h4, (hs g (by rw [h3]; rfl) (lt_of_heap h5)).trans h5, h6⟩
theorem row_blk {w : World} {base : Nat} {e : TypeId} {size : Nat} {v : Value} {n : Nat} {xs : List Value} (h : w.ownsRow base e size v n xs) {g : Nat} (hg : v.ownBlock = some g) : base ≤ g ∧ ∃ c, w.heap[g]? = some (.cells c e) := by
  rcases h.2 with ⟨rfl, _⟩ | ⟨g2, cap, cur, rfl, h4, h5, h6⟩
  · simp [Value.ownBlock] at hg
  · have : g2 = g := by simpa [Value.ownBlock] using hg
    subst this
    exact ⟨h4, _, h5⟩
theorem results_st1 {fn : Func} {p : Tmp} (h : fn.results = #[.cell p 27]) (tmps : Array Value) (w : World) (k : Nat) {e : St} {v : Value} (hp : tmps.getD p undef = .pointer (some ⟨k, 0, none⟩)) (hl : StAt w k e v) :
    (results fn tmps).run Tryz.prog w = .ok (.agg (stA e v)) w := by
  simp only [Array.getD_eq_getD_getElem?] at hp
  simp [results, h, hp, asAddr, hl.loadVar]
theorem results_st2 {fn : Func} {p u : Tmp} (h : fn.results = #[.cell p 27, .tmp u]) (tmps : Array Value) (w : World) (b : Nat) {e : St} {v : Value} (x : Value) (hp : tmps.getD p undef = .pointer (some ⟨b, 0, none⟩)) (hx : tmps.getD u undef = x) (hl : StAt w b e v) :
    (results fn tmps).run Tryz.prog w = .ok (.tuple #[.agg (stA e v), x]) w := by
  rw [results_cell_tmp h, hp]
  simp only [asAddr, Sem.run_pure, Result.andThen_ok, hl.loadVar, hx]
theorem lncell_new (w : World) (p : Ln) (t : TypeId) : ∀ j u, [.int .i64 p.item, .int .i64 p.price, .int .i64 p.qty, .int .i64 p.shipped][j]? = some u → (w.alloc (.cells (lnA p) t)).cell? ((⟨w.heap.size, 0, none⟩ : Addr).add j) = some u := by
  intro j u hj
  rw [show (⟨w.heap.size, 0, none⟩ : Addr).add j = ⟨w.heap.size, j, none⟩ from by simp [Addr.add]; exact fun h => h.symm]
  rw [cell_of_row (w.alloc (.cells (lnA p) t)) w.heap.size j (lnA p) t (0, 0) (heap_alloc_new w _)]
  rw [← hj]
  unfold lnA
  rcases j with _ | _ | _ | _ | j
  · rfl
  · rfl
  · rfl
  · rfl
  · simp
theorem StAt.froz {w : World} {b : Nat} {s : St} {v : Value} (h : StAt w b s v) (j : Nat) : w.frozen? ⟨b, j, none⟩ = false := frozen_of_row _ _ j _ _ h
theorem OwnL.other {w w' : World} {base : Nat} {v : Value} {L : List Ln} (h : OwnL w base v L) {k : Nat} (hk : k < base) (hs : ∀ j, j ≠ k → w'.heap[j]? = w.heap[j]?) : OwnL w' base v L :=
  row_at h (fun g hg _ => hs g (fun e => by have := (row_blk h hg).1; omega))
theorem ownl_lns {w : World} {base : Nat} {a : Option Addr} {n c : Nat} {L : List Ln} (h : OwnL w base (.slice a n c) L) : Lns w a L := by
  obtain ⟨a2, c2, hv, _, _, hl, _⟩ := h.shape
  injection hv with h1
  subst h1
  exact hl
theorem OwnL.mono {w : World} {b b' : Nat} {v : Value} {L : List Ln} (h : OwnL w b v L) (hb : b' ≤ b) : OwnL w b' v L := World.ownsRow.mono h hb
end Go.Proofs.YtdmncbeloenihaaGreat
namespace Go.Proofs.YtdmncbeloenihaaGreat
open Go.ChangeShapes Go.WideShapes Go.ChangeAt Go.RowKit
set_option linter.unusedVariables false
/-- while a state is copied -/
structure Cp (w wr : World) (s : St) (v v0 : Value) (L : List Ln) : Prop where
  src : StAt wr w.heap.size s v
  res : StAt wr (w.heap.size + 1) zeroS (.slice none 0 0)
  tmp : StAt wr (w.heap.size + 1 + 1) s v0
  row : OwnL wr (w.heap.size + 3) v0 L
  bel : Below w.heap.size w wr
theorem StAt.set5' {w : World} {b : Nat} {s : St} {v : Value} (h : StAt w b s v) (v2 : Value) : StAt (w.setCell ⟨b, 5, none⟩ v2) b s v2 := by
  unfold StAt at h ⊢
  rw [heap_setCell_same w b 5 _ _ _ h]
  rfl
theorem Cp.grow {w wr w4 : World} {s : St} {v v0 : Value} {L : List Ln} {p : Ln} {g c : Nat} (h : Cp w wr s v v0 L) (ho : w4.ownsRow (w.heap.size + 3) 45 4 (.slice (some ⟨g, 0, none⟩) (L.length + 1) c) (L.length + 1) (lfl L ++ [.int .i64 p.item, .int .i64 p.price, .int .i64 p.qty, .int .i64 p.shipped]))
    (hg : (wr.drew.alloc (.cells (lnA p) 45)).grownBy w4 v0.ownBlock) : Cp w (w4.setCell ⟨w.heap.size + 1 + 1, 5, none⟩ (.slice (some ⟨g, 0, none⟩) (L.length + 1) c)) s v (.slice (some ⟨g, 0, none⟩) (L.length + 1) c) (L ++ [p]) ∧ StAt w4 (w.heap.size + 1 + 1) s v0 := by
  have hB : Below wr.heap.size wr (wr.drew.alloc (.cells (lnA p) 45)) := (Below.refl _ _).drew.alloc (Nat.le_refl _) _
  have hlt := h.tmp.lt
  have key : ∀ k, k < w.heap.size + 3 → w4.heap[k]? = wr.heap[k]? := by
    intro k hk
    have h1 : w4.heap[k]? = (wr.drew.alloc (.cells (lnA p) 45)).heap[k]? := hg.block k (by have := hB.size; omega) (fun hv => by
      have := (row_blk (OwnL.keep h.row hB) hv.symm).1; omega)
    exact h1.trans (hB.block k (by omega))
  have t4 : StAt w4 (w.heap.size + 1 + 1) s v0 := (key _ (by omega)).trans h.tmp
  refine ⟨⟨?_, ?_, t4.set5' _, ?_, ?_⟩, t4⟩
  · exact (heap_setCell_other w4 ⟨w.heap.size + 1 + 1, 5, none⟩ w.heap.size _ (by show w.heap.size ≠ w.heap.size + 1 + 1; omega)).trans ((key _ (by omega)).trans h.src)
  · exact (heap_setCell_other w4 ⟨w.heap.size + 1 + 1, 5, none⟩ (w.heap.size + 1) _ (by show w.heap.size + 1 ≠ w.heap.size + 1 + 1; omega)).trans ((key _ (by omega)).trans h.res)
  · exact OwnL.other (OwnL.snoc rfl ho) (k := w.heap.size + 1 + 1) (by omega) (fun j hj => heap_setCell_other w4 ⟨w.heap.size + 1 + 1, 5, none⟩ j _ hj)
  · have hb1 : Below w.heap.size w (wr.drew.alloc (.cells (lnA p) 45)) := h.bel.drew.alloc h.bel.size _
    have hb2 : Below w.heap.size w w4 := hb1.grown hg (by have := hB.size; have := h.bel.size; omega) (fun k hk => by have := (row_blk (OwnL.keep h.row hB) hk).1; omega)
    exact hb2.setCell (p := ⟨w.heap.size + 1 + 1, 5, none⟩) (by show w.heap.size ≤ w.heap.size + 1 + 1; omega) _
theorem three_st (w : World) (s : St) (v : Value) : ∃ W, ((w.alloc (.cells (stA s v) 27)).alloc (.cells (stA zeroS (.slice none 0 0)) 27)).alloc (.cells (stA zeroS (.slice none 0 0)) 27) = W ∧ StAt W w.heap.size s v ∧ StAt W (w.heap.size + 1) zeroS (.slice none 0 0) ∧ StAt W (w.heap.size + 1 + 1) zeroS (.slice none 0 0) ∧ Below w.heap.size w W ∧ W.heap.size = w.heap.size + 3 := by
  refine ⟨_, rfl, ?_, ?_, ?_, (((Below.refl _ _).alloc (Nat.le_refl _) _).alloc (by simp) _).alloc (by simp; omega) _, by simp⟩
  · exact ((StAt.new w s v).after ((Below.refl _ _).alloc (Nat.le_refl _) _)).after ((Below.refl _ _).alloc (Nat.le_refl _) _)
  · have := (StAt.new (w.alloc (.cells (stA s v) 27)) zeroS (.slice none 0 0)).after ((Below.refl _ _).alloc (Nat.le_refl _) (.cells (stA zeroS (.slice none 0 0)) 27))
    simpa using this
  · have := StAt.new ((w.alloc (.cells (stA s v) 27)).alloc (.cells (stA zeroS (.slice none 0 0)) 27)) zeroS (.slice none 0 0)
    simpa using this
theorem Cp.start {w x1 : World} {s : St} {v : Value} (h1 : StAt x1 w.heap.size s v) (h2 : StAt x1 (w.heap.size + 1) zeroS (.slice none 0 0)) (h3 : StAt x1 (w.heap.size + 1 + 1) s v) (hb : Below w.heap.size w x1) (hs : x1.heap.size = w.heap.size + 3) :
    Cp w ((x1.alloc (.cells #[] 45)).setCell ⟨w.heap.size + 1 + 1, 5, none⟩ (.slice (some ⟨x1.heap.size, 0, none⟩) 0 0)) s v (.slice (some ⟨x1.heap.size, 0, none⟩) 0 0) [] ∧ (x1.alloc (.cells #[] 45)).frozen? ⟨w.heap.size + 1 + 1, 5, none⟩ = false ∧ (x1.alloc (.cells #[] 45)).cell? ⟨w.heap.size + 1 + 1, 5, none⟩ = some v := by
  have hB : Below x1.heap.size x1 (x1.alloc (.cells #[] 45)) := (Below.refl _ _).alloc (Nat.le_refl _) _
  have k3 := h3.after hB
  refine ⟨⟨?_, ?_, k3.set5' _, ?_, ?_⟩, k3.froz 5, k3.cell 5 _ rfl⟩
  · exact (heap_setCell_other _ ⟨w.heap.size + 1 + 1, 5, none⟩ w.heap.size _ (by show w.heap.size ≠ w.heap.size + 1 + 1; omega)).trans (h1.after hB)
  · exact (heap_setCell_other _ ⟨w.heap.size + 1 + 1, 5, none⟩ (w.heap.size + 1) _ (by show w.heap.size + 1 ≠ w.heap.size + 1 + 1; omega)).trans (h2.after hB)
  · exact (OwnL.other (OwnL.lit x1) (k := w.heap.size + 1 + 1) (by omega) (fun j hj => heap_setCell_other _ ⟨w.heap.size + 1 + 1, 5, none⟩ j _ hj)).mono (by omega)
  · exact (hb.alloc hb.size _).setCell (p := ⟨w.heap.size + 1 + 1, 5, none⟩) (by show w.heap.size ≤ w.heap.size + 1 + 1; omega) _
end Go.Proofs.YtdmncbeloenihaaGreat
