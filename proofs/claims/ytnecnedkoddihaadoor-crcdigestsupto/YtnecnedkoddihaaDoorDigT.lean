/- What is known behind each step of CrcDigests' script. -/
import Derived.Test.YtnecnedkoddihaaDoorDigS
namespace Go.Proofs.YtnecnedkoddihaaDoor
open Go.ChangeShapes Go.WideShapes Go.ChangeAt Go.RowKit
set_option linter.unusedVariables false
/-- behind the switch: the two digests, and the copy of the piece, which is none of theirs -/
def Aft (w wz : World) (B bd bf M : Nat) (vx vy vc : Value) (X Y l : List Nat) : Prop :=
  Dg w wz B bd bf vx vy X Y ∧ wz.ownsRow M 5 1 vc l.length (B8 l) ∧ B ≤ M ∧ (∀ g, vc.ownBlock = some g → (∀ g', vx.ownBlock = some g' → g' ≠ g) ∧ ∀ g', vy.ownBlock = some g' → g' ≠ g)
theorem aft_reset {w wr wc w1 : World} {B bd bf : Nat} {vx vy vc : Value} {X Y l : List Nat} (h : Dg w wr B bd bf vx vy X Y) (hb : Below wr.heap.size wr wc) (hc : Own wc wr.heap.size vc l) (hk : Kept bd bd wc w1) (hd : DigAt w1 bd 0 0) :
    Aft w w1 B bd bf wr.heap.size (.slice none 0 0) vy vc [] Y l := by
  have hp := h.pos
  have hB := h.hB
  refine ⟨(h.keep hb).reset hk hd, own_row_kept hc.2 hk (fun g hg => by have := (hc.2.lt g hg).1; omega), h.hB, fun g hg => ⟨(fun g' h' => by cases h'), fun g' h' => ?_⟩⟩
  have h1 := (hc.2.lt g hg).1
  have h2 := (h.ylt g' h').2
  omega
theorem aft_x {w wr wc w1 w2 : World} {B bd bf : Nat} {vx vy vc v' : Value} {X Y l : List Nat} (h : Dg w wr B bd bf vx vy X Y) (hb : Below wr.heap.size wr wc) (hc : Own wc wr.heap.size vc l) (hk : Kept bd bd wc w1) (hd : DigAt w1 bd (Crcm.update (Crcm.sum X) l) (X.length + l.length)) (ho : Own w2 B v' (X ++ l)) (hg : w1.grownBy w2 vx.ownBlock) (hs : ∀ g, v'.ownBlock = some g → vx.ownBlock = some g ∨ w1.heap.size ≤ g) :
    Aft w w2 B bd bf wr.heap.size v' vy vc (X ++ l) Y l := by
  have hp := h.pos
  have hB := h.hB
  have hc1 := own_row_kept hc.2 hk (fun g hg => by have := (hc.2.lt g hg).1; omega)
  refine ⟨(h.keep hb).addX hk hd ho hg hs, hc1.kept hg ?_, h.hB, fun g hg2 => ⟨fun g' h' => ?_, fun g' h' => ?_⟩⟩
  · cases hx : vx.ownBlock with
    | none => cases hy : vc.ownBlock with
      | none => exact .inl rfl
      | some y => exact .inr (by simp)
    | some g =>
      refine .inr (fun he => ?_)
      have h1 := (hc.2.lt g he).1
      have h2 := (h.xlt g hx).2
      omega
  · have h1 := hc.2.lt g hg2
    rcases hs g' h' with h3 | h3
    · have h2 := (h.xlt g' h3).2; omega
    · have := hk.size; omega
  · have h1 := (hc.2.lt g hg2).1
    have h2 := (h.ylt g' h').2
    omega
theorem aft_y {w wr wc w1 w2 : World} {B bd bf : Nat} {vx vy vc v' : Value} {X Y l : List Nat} (h : Dg w wr B bd bf vx vy X Y) (hb : Below wr.heap.size wr wc) (hc : Own wc wr.heap.size vc l) (hk : Kept bf bf wc w1) (hd : DigAt w1 bf (Crcm.update (Crcm.sum Y) l) (Y.length + l.length)) (ho : Own w2 B v' (Y ++ l)) (hg : w1.grownBy w2 vy.ownBlock) (hs : ∀ g, v'.ownBlock = some g → vy.ownBlock = some g ∨ w1.heap.size ≤ g) :
    Aft w w2 B bd bf wr.heap.size vx v' vc X (Y ++ l) l := by
  have hp := h.pos
  have hB := h.hB
  have hc1 := own_row_kept hc.2 hk (fun g hg => by have := (hc.2.lt g hg).1; omega)
  refine ⟨(h.keep hb).addY hk hd ho hg hs, hc1.kept hg ?_, h.hB, fun g hg2 => ⟨fun g' h' => ?_, fun g' h' => ?_⟩⟩
  · cases hx : vy.ownBlock with
    | none => cases hy : vc.ownBlock with
      | none => exact .inl rfl
      | some y => exact .inr (by simp)
    | some g =>
      refine .inr (fun he => ?_)
      have h1 := (hc.2.lt g he).1
      have h2 := (h.ylt g hx).2
      omega
  · have h1 := (hc.2.lt g hg2).1
    have h2 := (h.xlt g' h').2
    omega
  · have h1 := hc.2.lt g hg2
    rcases hs g' h' with h3 | h3
    · have h2 := (h.ylt g' h3).2; omega
    · have := hk.size; omega
theorem Dg.drewN {w wr : World} {B bd bf : Nat} {vx vy : Value} {X Y : List Nat} (h : Dg w wr B bd bf vx vy X Y) (q : Nat) : Dg w (wr.drewN q) B bd bf vx vy X Y := h.keep ⟨rfl, rfl, rfl, Nat.le_refl _, fun _ _ => rfl⟩
/-- one byte of the copy is written -/
theorem Dg.mark {w wz : World} {B bd bf M gc cc j : Nat} {vx vy : Value} {X Y : List Nat} {m : Nat} (h : Dg w wz B bd bf vx vy X Y) (hc : ∃ xs, wz.ownsRow M 5 1 (.slice (some ⟨gc, 0, none⟩) m cc) m xs) (hM : B ≤ M) (hx : ∀ g', vx.ownBlock = some g' → g' ≠ gc) (hy : ∀ g', vy.ownBlock = some g' → g' ≠ gc) (hj : j < m) (u : Value) :
    (∃ z, wz.cell? ⟨gc, j, none⟩ = some z) ∧ wz.frozen? ⟨gc, j, none⟩ = false ∧ Dg w (wz.setCell ⟨gc, j, none⟩ u) B bd bf vx vy X Y ∧ ∃ xs, (wz.setCell ⟨gc, j, none⟩ u).ownsRow M 5 1 (.slice (some ⟨gc, 0, none⟩) m cc) m xs := by
  obtain ⟨xs, hxs⟩ := hc
  have hlt := hxs.lt gc rfl
  have hst := hxs.stored j u
  refine ⟨?_, hxs.frozenAt j, h.other (kept_set j u) (by omega) hx hy, _, hst.1⟩
  rw [hxs.cellAt j (by omega)]
  exact ⟨_, List.getElem?_eq_getElem (by have := hxs.1; omega)⟩
end Go.Proofs.YtnecnedkoddihaaDoor
