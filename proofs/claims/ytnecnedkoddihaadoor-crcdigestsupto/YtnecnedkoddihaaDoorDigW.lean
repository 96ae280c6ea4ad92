/- Two digests, and the two rows that are laid beside them. -/
import Derived.Test.YtnecnedkoddihaaDoorDig
import Derived.Test.YtnecnedkoddihaaDoorCopy
import Derived.Laws.AppendOwnNone
namespace Go.Proofs.YtnecnedkoddihaaDoor
open Go.ChangeShapes Go.WideShapes Go.ChangeAt Go.RowKit
set_option linter.unusedVariables false
theorem own_row_keep {w w' : World} {base e size n : Nat} {v : Value} {xs : List Value} (h : w.ownsRow base e size v n xs) (hb : Below w.heap.size w w') : w'.ownsRow base e size v n xs := by
  obtain ⟨h1, h2⟩ := h
  refine ⟨h1, ?_⟩
  rcases h2 with h2 | ⟨g, cap, cur, h3, h4, h5, h6, h7, h8, h9⟩
  · exact .inl h2
  · refine .inr ⟨g, cap, cur, h3, h4, ?_, h6, h7, h8, h9⟩
    have hlt : g < w.heap.size := by
      by_cases hh : g < w.heap.size
      · exact hh
      · rw [Array.getElem?_eq_none (by omega)] at h5; cases h5
    rw [hb.block g hlt]; exact h5
theorem own_row_kept {w w' : World} {ga gc base e size n : Nat} {v : Value} {xs : List Value} (h : w.ownsRow base e size v n xs) (hb : Kept ga gc w w') (h1 : ∀ g, v.ownBlock = some g → g ≠ ga ∧ g ≠ gc) : w'.ownsRow base e size v n xs := by
  obtain ⟨k1, h2⟩ := h
  refine ⟨k1, ?_⟩
  rcases h2 with h2 | ⟨g, cap, cur, h3, h4, h5, h6, h7, h8, h9⟩
  · exact .inl h2
  · refine .inr ⟨g, cap, cur, h3, h4, ?_, h6, h7, h8, h9⟩
    have hlt : g < w.heap.size := by
      by_cases hh : g < w.heap.size
      · exact hh
      · rw [Array.getElem?_eq_none (by omega)] at h5; cases h5
    have hg := h1 g (by rw [h3]; rfl)
    rw [hb.block g hlt hg.1 hg.2]; exact h5
theorem grown_refl (w : World) (r : Option Nat) : w.grownBy w r := ⟨rfl, rfl, rfl, Nat.le_refl _, fun _ _ _ => rfl⟩
/-- append to a row of the call's own: it stays where it is, or goes to new memory -/
theorem wpList_append_sep (w : World) {ops : Array Oper} {rest : List Oper} {o : Oper} {act : Act} {Q : Exit → Act → World → Prop}
    (hg : o.guard = none) (s x : Operand) (hop : o.op = Op.call { callee := Callee.builtin Builtin.append, args := #[s, x], argTypes := #[22, 22] })
    (base : Nat) (v : Value) (X l : List Nat) (A : Option Addr) (n C : Nat) (hs : act.eval s = v) (hown : Own w base v X) (hx : act.eval x = .slice A n C) (hln : l.length = n) (hb : Bytes w A l) (hnc : n ≤ C) (hA : A = none → C = 0) (hl : X.length + n ≤ 4194304) (hbase : base ≤ w.heap.size)
    (hK : ∀ v' w', Own w' base v' (X ++ l) → w.grownBy w' v.ownBlock → (∀ g, v'.ownBlock = some g → v.ownBlock = some g ∨ w.heap.size ≤ g) → wpList Tryd.prog ops Q rest (act.put o.dst v') w') :
    wpList Tryd.prog ops Q (o :: rest) act w := by
  subst hln
  obtain ⟨i0, hi, hz0, hz1, hz2⟩ := info_parts Tryd.info5c
  cases A with
  | none =>
    have hc := hA rfl
    have hl0 : l = [] := List.length_eq_zero_iff.1 (by omega)
    subst hl0
    refine wpList_append_own_none hg s x 22 hop base 5 i0 1 Tryd.underlying22 hi v _ _ hs hown.2 (by rw [hx, hc]; rfl) ?_
    exact hK v w (by rw [List.append_nil]; exact hown) (grown_refl _ _) (fun g h => .inl h)
  | some x0 =>
    have fin : ∀ {v' : Value} {w' : World} {b' : Nat}, base ≤ b' → w'.ownsRow b' 5 1 v' (X.length + l.length) (B8 X ++ B8 l) → Own w' base v' (X ++ l) := by
      intro v' w' b' hb' ho
      refine Own.append hown.1 hb.1 ⟨ho.1, ?_⟩
      rcases ho.2 with h | ⟨g, cap, cur, h1, h2, h3⟩
      · exact .inl h
      · exact .inr ⟨g, cap, cur, h1, Nat.le_trans hb' h2, h3⟩
    have fresh : ∀ {v' : Value} {w' : World} {n' : Nat} {xs : List Value}, w'.ownsRow w.heap.size 5 1 v' n' xs → ∀ g, v'.ownBlock = some g → w.heap.size ≤ g := fun ho g h => (ho.lt g h).1
    rcases hown.2.2 with ⟨hv, hX0⟩ | ⟨g, cap, cur, hv, hbg, hh, hr1, hr2, hr3, hr4⟩
    · subst hv
      have hX : X = [] := List.length_eq_zero_iff.1 hX0
      by_cases hl0 : l.length = 0
      · have hle : l = [] := List.length_eq_zero_iff.1 hl0
        refine wpList_append_own _ hg s x 22 hop base 5 i0 (.int .u8 0) 1 1 Tryd.underlying22 hi hz0 hz1 hz2 rfl (by decide) _ _ _ hs hown.2 x0 l.length C (B8 l) hx (B8_length l) (bytes_cells hb) (B8_one l) (by unfold maxLen; omega) (by omega) hbase ?_
        intro v' w' ho hgr hiff
        have hnil := hiff.2 ⟨rfl, hl0⟩
        exact hK v' w' (fin (Nat.le_refl _) ho) hgr (fun g h => by rw [hnil] at h; cases h)
      · refine wpList_append_grows w hg s x 22 hop 5 i0 (.int .u8 0) 1 1 Tryd.underlying22 hi hz0 hz1 hz2 rfl (by decide) none 0 0 [] hs (fun h => ⟨rfl, rfl⟩) rfl (fun b hb' => by cases hb') x0 l.length C (B8 l) hx (B8_length l) (bytes_cells hb) (B8_one l) (by omega) (by unfold maxLen; omega) (by omega) (fun v' w' ho hgr => ?_)
        refine hK v' w' (fin hbase (by rw [hX]; simpa [B8] using ho)) hgr (fun g h => .inr (fresh ho g h))
    · subst hv
      by_cases hroom : X.length + l.length ≤ cap
      · exact wpList_append_fits w hg s x 22 hop base 5 i0 1 Tryd.underlying22 hi hz1 g X.length cap (B8 X) hs hown.2 x0 l.length C (B8 l) hx (B8_length l) (bytes_cells hb) (B8_one l) hroom (fun w' ho hgr => hK _ w' (fin (Nat.le_refl _) ho) hgr (fun g' h => .inl h))
      · refine wpList_append_grows w hg s x 22 hop 5 i0 (.int .u8 0) 1 1 Tryd.underlying22 hi hz0 hz1 hz2 rfl (by decide) (some ⟨g, 0, none⟩) X.length cap (B8 X) hs (fun h => by cases h) hown.2.1 (fun b hb' j u hj => ?_) x0 l.length C (B8 l) hx (B8_length l) (bytes_cells hb) (B8_one l) (by omega) (by unfold maxLen; omega) (by omega) (fun v' w' ho hgr => ?_)
        · cases hb'
          exact hown.2.cells (g := g) rfl j u hj
        · exact hK v' w' (fin hbase ho) ⟨hgr.os, hgr.tape, hgr.output, hgr.size, fun k hk _ => hgr.block k hk (by simp)⟩ (fun g' h => .inr (fresh ho g' h))
end Go.Proofs.YtnecnedkoddihaaDoor
