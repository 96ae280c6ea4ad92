/- What CrcDigests keeps from step to step. -/
import Derived.Test.YtnecnedkoddihaaDoorDigW
import Derived.Test.YtnecnedkoddihaaDoorRcrc
namespace Go.Proofs.YtnecnedkoddihaaDoor
open Go.ChangeShapes Go.WideShapes Go.ChangeAt Go.RowKit
set_option linter.unusedVariables false
theorem below_ny {w a b : World} (h : Below w.heap.size w a) (k : Below a.heap.size a b) : Below w.heap.size w b := h.trans (k.mono h.size)
structure Dg (w wr : World) (B bd bf : Nat) (vx vy : Value) (X Y : List Nat) : Prop where
  ox : Own wr B vx X
  oy : Own wr B vy Y
  sep : ∀ g, vx.ownBlock = some g → vy.ownBlock ≠ some g
  dd : DigAt wr bd (Crcm.sum X) X.length
  df : DigAt wr bf (Crcm.sum Y) Y.length
  bel : Below w.heap.size w wr
  hB : B ≤ wr.heap.size
  pos : w.heap.size ≤ bd ∧ bd < B ∧ w.heap.size ≤ bf ∧ bf < B ∧ bd ≠ bf
theorem Dg.keep {w wr w' : World} {B bd bf : Nat} {vx vy : Value} {X Y : List Nat} (h : Dg w wr B bd bf vx vy X Y) (hb : Below wr.heap.size wr w') : Dg w w' B bd bf vx vy X Y :=
  ⟨⟨h.ox.1, own_row_keep h.ox.2 hb⟩, ⟨h.oy.1, own_row_keep h.oy.2 hb⟩, h.sep, h.dd.keep hb, h.df.keep hb, below_ny h.bel hb, Nat.le_trans h.hB hb.size, h.pos⟩
theorem Dg.xlt {w wr : World} {B bd bf : Nat} {vx vy : Value} {X Y : List Nat} (h : Dg w wr B bd bf vx vy X Y) (g : Nat) (hg : vx.ownBlock = some g) : B ≤ g ∧ g < wr.heap.size := h.ox.2.lt g hg
theorem Dg.ylt {w wr : World} {B bd bf : Nat} {vx vy : Value} {X Y : List Nat} (h : Dg w wr B bd bf vx vy X Y) (g : Nat) (hg : vy.ownBlock = some g) : B ≤ g ∧ g < wr.heap.size := h.oy.2.lt g hg
theorem sum_more (X l : List Nat) : Crcm.sum (X ++ l) = Crcm.update (Crcm.sum X) l := Crcm.update_append 0 X l
/-- a block that is none of ours is written -/
theorem Dg.other {w wr w' : World} {B bd bf gc : Nat} {vx vy : Value} {X Y : List Nat} (h : Dg w wr B bd bf vx vy X Y) (hk : Kept gc gc wr w') (hgc : B ≤ gc) (h1 : ∀ g, vx.ownBlock = some g → g ≠ gc) (h2 : ∀ g, vy.ownBlock = some g → g ≠ gc) : Dg w w' B bd bf vx vy X Y := by
  have hp := h.pos
  refine ⟨⟨h.ox.1, own_row_kept h.ox.2 hk (fun g hg => ⟨h1 g hg, h1 g hg⟩)⟩, ⟨h.oy.1, own_row_kept h.oy.2 hk (fun g hg => ⟨h2 g hg, h2 g hg⟩)⟩, h.sep, h.dd.kept hk (by omega) (by omega), h.df.kept hk (by omega) (by omega), ⟨hk.os.trans h.bel.os, hk.tape.trans h.bel.tape, hk.output.trans h.bel.output, Nat.le_trans h.bel.size hk.size, fun k hk2 => ?_⟩, Nat.le_trans h.hB hk.size, hp⟩
  rw [hk.block k (Nat.lt_of_lt_of_le hk2 h.bel.size) (by omega) (by omega)]
  exact h.bel.block k hk2
theorem Dg.wrD {w wr w1 : World} {B bd bf : Nat} {vx vy : Value} {X Y : List Nat} (h : Dg w wr B bd bf vx vy X Y) (hk : Kept bd bd wr w1) : Own w1 B vx X ∧ Own w1 B vy Y ∧ DigAt w1 bf (Crcm.sum Y) Y.length ∧ Below w.heap.size w w1 ∧ B ≤ w1.heap.size := by
  have hp := h.pos
  refine ⟨⟨h.ox.1, own_row_kept h.ox.2 hk (fun g hg => by have := h.xlt g hg; omega)⟩, ⟨h.oy.1, own_row_kept h.oy.2 hk (fun g hg => by have := h.ylt g hg; omega)⟩, h.df.kept hk (by omega) (by omega), ⟨hk.os.trans h.bel.os, hk.tape.trans h.bel.tape, hk.output.trans h.bel.output, Nat.le_trans h.bel.size hk.size, fun k hk2 => ?_⟩, Nat.le_trans h.hB hk.size⟩
  rw [hk.block k (Nat.lt_of_lt_of_le hk2 h.bel.size) (by omega) (by omega)]
  exact h.bel.block k hk2
theorem Dg.wrF {w wr w1 : World} {B bd bf : Nat} {vx vy : Value} {X Y : List Nat} (h : Dg w wr B bd bf vx vy X Y) (hk : Kept bf bf wr w1) : Own w1 B vx X ∧ Own w1 B vy Y ∧ DigAt w1 bd (Crcm.sum X) X.length ∧ Below w.heap.size w w1 ∧ B ≤ w1.heap.size := by
  have hp := h.pos
  refine ⟨⟨h.ox.1, own_row_kept h.ox.2 hk (fun g hg => by have := h.xlt g hg; omega)⟩, ⟨h.oy.1, own_row_kept h.oy.2 hk (fun g hg => by have := h.ylt g hg; omega)⟩, h.dd.kept hk (by omega) (by omega), ⟨hk.os.trans h.bel.os, hk.tape.trans h.bel.tape, hk.output.trans h.bel.output, Nat.le_trans h.bel.size hk.size, fun k hk2 => ?_⟩, Nat.le_trans h.hB hk.size⟩
  rw [hk.block k (Nat.lt_of_lt_of_le hk2 h.bel.size) (by omega) (by omega)]
  exact h.bel.block k hk2
theorem dig_grown {w w' : World} {b s n : Nat} {row : Option Nat} (h : DigAt w b s n) (hg : w.grownBy w' row) (hr : some b ≠ row) : DigAt w' b s n := (hg.block b h.lt hr).trans h
theorem below_grown {w0 w w' : World} {B : Nat} {row : Option Nat} (h : Below w0.heap.size w0 w) (hg : w.grownBy w' row) (hr : ∀ g, row = some g → w0.heap.size ≤ g) : Below w0.heap.size w0 w' := h.grown hg h.size hr
theorem Dg.reset {w wr w1 : World} {B bd bf : Nat} {vx vy : Value} {X Y : List Nat} (h : Dg w wr B bd bf vx vy X Y) (hk : Kept bd bd wr w1) (hd : DigAt w1 bd 0 0) : Dg w w1 B bd bf (.slice none 0 0) vy [] Y := by
  obtain ⟨h1, h2, h3, h4, h5⟩ := h.wrD hk
  exact ⟨⟨by simp, World.ownsRow_nil _ _ _ _⟩, h2, (fun g hg => by cases hg), hd, h3, h4, h5, h.pos⟩
theorem Dg.addX {w wr w1 w2 : World} {B bd bf : Nat} {vx vy v' : Value} {X Y l : List Nat} (h : Dg w wr B bd bf vx vy X Y) (hk : Kept bd bd wr w1) (hd : DigAt w1 bd (Crcm.update (Crcm.sum X) l) (X.length + l.length)) (ho : Own w2 B v' (X ++ l)) (hg : w1.grownBy w2 vx.ownBlock) (hs : ∀ g, v'.ownBlock = some g → vx.ownBlock = some g ∨ w1.heap.size ≤ g) : Dg w w2 B bd bf v' vy (X ++ l) Y := by
  obtain ⟨h1, h2, h3, h4, h5⟩ := h.wrD hk
  have hp := h.pos
  have nb : ∀ b, b < B → some b ≠ vx.ownBlock := fun b hb he => by have := (h.xlt b he.symm).1; omega
  refine ⟨ho, ⟨h2.1, h2.2.kept hg ?_⟩, ?_, ?_, dig_grown h3 hg (nb bf hp.2.2.2.1), h4.grown hg h4.size (fun g hh => by have := (h.xlt g hh).1; omega), Nat.le_trans h5 hg.size, hp⟩
  · cases hx : vx.ownBlock with
    | none => cases hy : vy.ownBlock with
      | none => exact .inl rfl
      | some y => exact .inr (by simp)
    | some g => exact .inr (h.sep g hx)
  · intro g hv hy
    rcases hs g hv with h' | h'
    · exact h.sep g h' hy
    · have := (h2.2.lt g hy).2; omega
  · rw [sum_more, List.length_append]; exact dig_grown hd hg (nb bd hp.2.1)
theorem Dg.addY {w wr w1 w2 : World} {B bd bf : Nat} {vx vy v' : Value} {X Y l : List Nat} (h : Dg w wr B bd bf vx vy X Y) (hk : Kept bf bf wr w1) (hd : DigAt w1 bf (Crcm.update (Crcm.sum Y) l) (Y.length + l.length)) (ho : Own w2 B v' (Y ++ l)) (hg : w1.grownBy w2 vy.ownBlock) (hs : ∀ g, v'.ownBlock = some g → vy.ownBlock = some g ∨ w1.heap.size ≤ g) : Dg w w2 B bd bf vx v' X (Y ++ l) := by
  obtain ⟨h1, h2, h3, h4, h5⟩ := h.wrF hk
  have hp := h.pos
  have nb : ∀ b, b < B → some b ≠ vy.ownBlock := fun b hb he => by have := (h.ylt b he.symm).1; omega
  refine ⟨⟨h1.1, h1.2.kept hg ?_⟩, ho, ?_, dig_grown h3 hg (nb bd hp.2.1), ?_, h4.grown hg h4.size (fun g hh => by have := (h.ylt g hh).1; omega), Nat.le_trans h5 hg.size, hp⟩
  · cases hy : vy.ownBlock with
    | none => cases hx : vx.ownBlock with
      | none => exact .inl rfl
      | some y => exact .inr (by simp)
    | some g => exact .inr (fun hx => h.sep g hx hy)
  · intro g hx hv
    rcases hs g hv with h' | h'
    · exact h.sep g hx h'
    · have := (h1.2.lt g hx).2; omega
  · rw [sum_more, List.length_append]; exact dig_grown hd hg (nb bf hp.2.2.2.1)
/-- the script: so many pieces -/
def Pieces (w : World) (a : Option Addr) (n : Nat) (A : Nat → Option Addr) (L : Nat → List Nat) (C : Nat → Nat) : Prop :=
  (n = 0 ∨ ∃ b off, a = some ⟨b, off, none⟩ ∧ b < w.heap.size ∧ ∀ r, r < n → w.cell? ⟨b, off + r, none⟩ = some (.slice (A r) (L r).length (C r))) ∧ ∀ r, r < n → Bytes w (A r) (L r) ∧ (L r).length ≤ C r ∧ (A r = none → C r = 0)
def tot (L : Nat → List Nat) : Nat → Nat
  | 0 => 0
  | k + 1 => tot L k + (L k).length
theorem tot_mono (L : Nat → List Nat) {k n : Nat} (h : k ≤ n) : tot L k ≤ tot L n := by
  induction n with
  | zero => (obtain rfl : k = 0 := (by omega)); exact Nat.le_refl _
  | succ n ih =>
    by_cases hk : k = n + 1
    · subst hk; exact Nat.le_refl _
    · have := ih (by omega); rw [tot]; omega
end Go.Proofs.YtnecnedkoddihaaDoor
