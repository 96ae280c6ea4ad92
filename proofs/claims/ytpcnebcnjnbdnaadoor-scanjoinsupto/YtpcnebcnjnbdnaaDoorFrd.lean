/- A frame in memory whose body is written and grown. -/
import Derived.Test.YtpcnebcnjnbdnaaDoorFr9
import Derived.Test.YtpcnebcnjnbdnaaDoorSlc
import Derived.Test.YtpcnebcnjnbdnaaDoorFr7
import Derived.Test.YtpcnebcnjnbdnaaDoorTwo
import Derived.Test.YtpcnebcnjnbdnaaDoorTurn
import Derived.Deep.AppendLies
namespace Go.Proofs.YtpcnebcnjnbdnaaDoor
open Go.ChangeShapes Go.WideShapes Go.ChangeAt Go.RowKit
set_option linter.unusedVariables false
theorem FrmAt.setBody {w : World} {k : Nat} {kind seq : Int} {bv : Value} (h : FrmAt w k kind seq bv) (v : Value) : FrmAt (w.setCell ⟨k, 2, none⟩ v) k kind seq v := by
  unfold FrmAt; rw [heap_setCell_same w k 2 _ _ _ h]; rfl
theorem own_setBody {w : World} {base k n : Nat} {kind seq : Int} {bv v : Value} {xs : List Value} (ho : w.ownsRow base 5 1 v n xs) (h : FrmAt w k kind seq bv) (x : Value) : (w.setCell ⟨k, 2, none⟩ x).ownsRow base 5 1 v n xs := by
  refine ⟨ho.1, ?_⟩
  rcases ho.2 with h2 | ⟨g, cap, cur, h3, h4, h5, h6⟩
  · exact .inl h2
  · refine .inr ⟨g, cap, cur, h3, h4, ?_, h6⟩
    have hne : g ≠ k := by
      intro hgk
      subst hgk
      unfold FrmAt at h
      rw [h5] at h
      cases h
    rw [heap_setCell_other w ⟨k, 2, none⟩ g x hne]
    exact h5
theorem xor255 (x : Nat) (h : x < 256) : bits .xor .u8 (x : Int) 255 = ((x ^^^ 255 : Nat) : Int) ∧ x ^^^ 255 < 256 := by
  refine ⟨?_, ?_⟩
  · have := u8_xor_nat x 255 h (by omega)
    exact this
  · exact Nat.xor_lt_two_pow (n := 8) h (by omega)
theorem body_grown {wo wb w9 : World} {B k N : Nat} {kind seq : Int} {v v9 : Value} {u : List Nat} (ho : wb.ownsRow B 5 1 v N (B8 u)) (hf : FrmAt wb k kind seq v) (hbb : Below wo.heap.size wo wb) (hB : wo.heap.size ≤ B) (hk : wo.heap.size ≤ k)
    (ho9 : w9.ownsRow B 5 1 v9 (N + 1) (B8 u ++ [.int .u8 204])) (hg9 : (wb.alloc (.cells #[.int .u8 204] 5)).grownBy w9 v.ownBlock) :
    ∃ g c, v9 = .slice (some ⟨g, 0, none⟩) (N + 1) c ∧ FrmAt w9 k kind seq v ∧ w9.frozen? ⟨k, 2, none⟩ = false ∧ (w9.setCell ⟨k, 2, none⟩ v9).ownsRow B 5 1 v9 (N + 1) (B8 (u ++ [204])) ∧ FrmAt (w9.setCell ⟨k, 2, none⟩ v9) k kind seq v9 ∧ Below wo.heap.size wo (w9.setCell ⟨k, 2, none⟩ v9) := by
  obtain ⟨g, c, hv, _, _⟩ := World.ownsRow.form ho9 (by omega)
  have hoa := World.ownsRow.alloc ho (.cells #[.int .u8 204] 5)
  have hfa : FrmAt (wb.alloc (.cells #[.int .u8 204] 5)) k kind seq v := hf.keep ((Below.refl _ _).alloc (Nat.le_refl _) _)
  have hf9 : FrmAt w9 k kind seq v := hfa.grown hoa hg9
  have hba := hbb.alloc hbb.size (.cells #[.int .u8 204] 5)
  have hb9 : Below wo.heap.size wo w9 := hba.grown hg9 hba.size (fun j hj => Nat.le_trans hB (hoa.lt j hj).1)
  refine ⟨g, c, hv, hf9, frozen_of_row _ _ 2 _ _ hf9, ?_, hf9.setBody v9, hb9.setCell (p := ⟨k, 2, none⟩) hk v9⟩
  have h := own_setBody ho9 hf9 v9
  rw [B8_append]
  exact h
theorem decB_le (l : List Nat) : (decB l).length ≤ 16384 := by
  unfold decB
  by_cases h2 : decE l = 0
  · rw [if_pos h2]
    have := (peekE_zero (decE_zero h2).1).2.2.2.1
    rw [List.length_take]
    omega
  · rw [if_neg h2]; simp
end Go.Proofs.YtpcnebcnjnbdnaaDoor
