/- Own texts, joined: Tlwp. -/
import Derived.Test.YtbdgiecnhgiogaaK25
import Derived.Test.YtbdgiecnhgiogaaK31
import Derived.Test.YtbdgiecnhgiogaaJ32
import Derived.Laws.OwnMore
namespace Go.Proofs.Ytbdgiecnhgiogaa
open Go.ChangeShapes Go.WideShapes Go.ChangeAt Go.RowKit
set_option linter.unusedVariables false
/-- bytes of one's own while they are turned: all blocks but theirs are as they were -/
structure Tu (w wr : World) (base : Nat) (a : Option Addr) (k c : Nat) : Prop where
  os : wr.os = w.os
  tape : wr.tape = w.tape
  output : wr.output = w.output
  size : wr.heap.size = w.heap.size
  block : ∀ j, a ≠ some ⟨j, 0, none⟩ → wr.heap[j]? = w.heap[j]?
  p : ∃ xs, wr.ownsRow base 5 1 (.slice a k c) k xs ∧ ∀ x ∈ xs, ∃ z : Int, x = .int .u8 z
theorem Tu.step {w wr : World} {base : Nat} {a : Option Addr} {k c : Nat} (h : Tu w wr base a k c) (j : Nat) (hj : j < k) :
    ∃ g z, a = some ⟨g, 0, none⟩ ∧ wr.cell? ⟨g, j, none⟩ = some (.int .u8 z) ∧ wr.frozen? ⟨g, j, none⟩ = false ∧ ∀ y : Int, Tu w (wr.setCell ⟨g, j, none⟩ (.int .u8 y)) base a k c := by
  obtain ⟨xs, hx, hz⟩ := h.p
  have hx2 := hx
  rcases hx2.2 with ⟨_, hn⟩ | ⟨g, cap, cur, hv, hb, _⟩
  · omega
  · injection hv with h1 h2 h3
    subst h1
    have e2 := hx.cellAt j (by omega)
    have hl := hx.1
    obtain ⟨x, hxj⟩ : ∃ x, xs[j]? = some x := ⟨_, List.getElem?_eq_getElem (by omega)⟩
    obtain ⟨z, rfl⟩ := hz x (List.mem_of_getElem? hxj)
    refine ⟨g, z, rfl, by rw [e2]; exact hxj, hx.frozenAt j, fun y => ?_⟩
    have hst := hx.stored j (.int .u8 y)
    refine ⟨h.os, h.tape, h.output, by simp [World.setCell]; exact h.size, fun k hk => (heap_setCell_other _ ⟨g, j, none⟩ k _ (fun hh => hk (by rw [hh]))).trans (h.block k hk), ⟨_, hst.1, fun x hx => by rcases List.mem_or_eq_of_mem_set hx with h9 | rfl; exact hz x h9; exact ⟨y, rfl⟩⟩⟩
theorem Tu.start {w : World} {base : Nat} {a : Option Addr} {k c : Nat} {l : List Nat} (h : Own w base (.slice a k c) l) (hk : l.length = k) : Tu w w base a k c := by
  subst hk
  exact ⟨rfl, rfl, rfl, rfl, fun _ _ => rfl, ⟨_, h.2, fun x hx => by obtain ⟨n, _, rfl⟩ := List.mem_map.1 hx; exact ⟨_, rfl⟩⟩⟩
theorem Tu.lo {w wr : World} {base : Nat} {a : Option Addr} {k c : Nat} (h : Tu w wr base a k c) (g : Nat) (hg : a = some ⟨g, 0, none⟩) : base ≤ g ∧ g < wr.heap.size := by
  obtain ⟨xs, hx, _⟩ := h.p
  exact hx.lt g (by rw [hg]; rfl)
theorem Tu.below {w wr : World} {base b : Nat} {a : Option Addr} {k c : Nat} (h : Tu w wr base a k c) (hb : b ≤ base) : Below b w wr :=
  ⟨h.os, h.tape, h.output, by rw [h.size]; exact Nat.le_refl _, fun j hj => h.block j (fun hh => by have := (h.lo j hh).1; omega)⟩
theorem Tu.betw {w wr : World} {base s t : Nat} {a : Option Addr} {k c : Nat} (h : Tu w wr base a k c) (hs : s ≤ base) (ht : ∀ g, a = some ⟨g, 0, none⟩ → g < t) : Betw s t w wr :=
  ⟨h.os, h.tape, h.output, by rw [h.size]; exact Nat.le_refl _, fun j _ hj => h.block j (fun hh => by have h1 := (h.lo j hh).1; have h2 := ht j hh; omega)⟩
theorem rfault_at (f : Fld) (last : Int) (a : Option Addr) (n cap : Nat) (w : World) (hn : f.bytes.length = n) (hu : f.num ≤ 18446744073709551615) :
    Calls Try.prog 16 #[FV f.tag f.text f.num (.slice a n cap), .int .i64 last] w fun r w' => r = .returned (.int .i64 (flt f last : Int)) ∧ Below w.heap.size w w' := by
  subst hn
  exact rfault_any f last a cap w hu
theorem oks_of {L M : List (Fld × Value)} {P : Fld → Prop} (h : L.map Prod.fst = M.map Prod.fst) (hM : ∀ p ∈ M, P p.1) : ∀ p ∈ L, P p.1 := by
  intro p hp
  have h1 : p.1 ∈ M.map Prod.fst := by rw [← h]; exact List.mem_map.2 ⟨p, hp, rfl⟩
  obtain ⟨q, hq, hqp⟩ := List.mem_map.1 h1
  rw [← hqp]
  exact hM q hq
/-- the round's field with another number -/
theorem set6 {wr w6 : World} {tag : Int} {u : Nat} (hb : Below wr.heap.size wr w6) (hf : FldAt w6 (wr.heap.size + 1) tag false u (.slice none 0 0)) (y : Nat) : ∃ W6, w6.setCell ⟨wr.heap.size + 1, 2, none⟩ (.int .u64 (y : Int)) = W6 ∧ Below wr.heap.size wr W6 ∧ FldAt W6 (wr.heap.size + 1) tag false y (.slice none 0 0) ∧ W6.heap.size = w6.heap.size :=
  ⟨_, rfl, hb.setCell (p := ⟨wr.heap.size + 1, 2, none⟩) (by simp) _, hf.setNum y, by simp [World.setCell]⟩
theorem FldAt.froz {w : World} {k : Nat} {tag : Int} {text : Bool} {num : Nat} {bv : Value} (h : FldAt w k tag text num bv) (j : Nat) : w.frozen? ⟨k, j, none⟩ = false := frozen_of_row _ _ j _ _ h
theorem zig_nat (x : Int) (h0 : -9223372036854775808 ≤ x) (h1 : x ≤ 9223372036854775807) : ∃ y : Nat, zig x = (y : Int) ∧ y ≤ 18446744073709551615 := by
  unfold zig
  split
  · exact ⟨(2 * x).toNat, by omega, by omega⟩
  · exact ⟨(-2 * x - 1).toNat, by omega, by omega⟩
/-- the round's field written over by one with a text -/
theorem set7 {wr w7 : World} {tag : Int} {u : Nat} {bv : Value} (hb : Below wr.heap.size wr w7) (hf : FldAt w7 (wr.heap.size + 1) tag false u (.slice none 0 0)) : ∃ X, (((w7.setCell ⟨wr.heap.size + 1, 0, none⟩ (.int .i64 tag)).setCell ⟨wr.heap.size + 1, 1, none⟩ (.bool true)).setCell ⟨wr.heap.size + 1, 2, none⟩ (.int .u64 0)).setCell ⟨wr.heap.size + 1, 3, none⟩ bv = X ∧ Below wr.heap.size wr X ∧ FldAt X (wr.heap.size + 1) tag true 0 bv ∧ X.heap.size = w7.heap.size ∧ ∀ j, j ≠ wr.heap.size + 1 → X.heap[j]? = w7.heap[j]? := by
  refine ⟨_, rfl, (((hb.setCell (p := ⟨wr.heap.size + 1, 0, none⟩) (by simp) _).setCell (p := ⟨wr.heap.size + 1, 1, none⟩) (by simp) _).setCell (p := ⟨wr.heap.size + 1, 2, none⟩) (by simp) _).setCell (p := ⟨wr.heap.size + 1, 3, none⟩) (by simp) _, ?_, by simp [World.setCell], fun j hj => ?_⟩
  · have h1 := heap_setCell_same w7 (wr.heap.size + 1) 0 _ _ (.int .i64 tag) hf
    have h2 := heap_setCell_same _ (wr.heap.size + 1) 1 _ _ (.bool true) h1
    have h3 := heap_setCell_same _ (wr.heap.size + 1) 2 _ _ (.int .u64 0) h2
    have h4 := heap_setCell_same _ (wr.heap.size + 1) 3 _ _ bv h3
    exact h4
  · exact (heap_setCell_other _ ⟨wr.heap.size + 1, 3, none⟩ j _ hj).trans ((heap_setCell_other _ ⟨wr.heap.size + 1, 2, none⟩ j _ hj).trans ((heap_setCell_other _ ⟨wr.heap.size + 1, 1, none⟩ j _ hj).trans (heap_setCell_other _ ⟨wr.heap.size + 1, 0, none⟩ j _ hj)))
theorem own_bytesW {w : World} {base : Nat} {a : Option Addr} {k c : Nat} {m : List Nat} (h : Own w base (.slice a k c) m) : Bytes w a m := by
  obtain ⟨a2, c2, hv, _, _, hb, _⟩ := h.shape
  injection hv with h1
  subst h1
  exact hb
theorem own_mv {w w' : World} {base b : Nat} {v : Value} {l : List Nat} (h : Own w base v l) (hb : b ≤ base) (hs : ∀ k, base ≤ k → k < w.heap.size → v.ownBlock = some k → w'.heap[k]? = w.heap[k]?) : Own w' b v l :=
  ⟨h.1, World.ownsRow.mono (own_moved2 h.2 hs) hb⟩
end Go.Proofs.Ytbdgiecnhgiogaa
