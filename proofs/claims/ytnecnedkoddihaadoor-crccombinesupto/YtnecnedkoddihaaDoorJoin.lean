/- What daybooklaw03.join answers. -/
import Derived.Test.YtnecnedkoddihaaDoorCopy
import Derived.Laws.AppendOwnNone
namespace Go.Proofs.YtnecnedkoddihaaDoor
open Go.ChangeShapes Go.WideShapes Go.ChangeAt Go.RowKit
set_option maxRecDepth 20000 in
set_option maxHeartbeats 1000000 in
theorem join_any (l m : List Nat) (n1 n2 : Nat) (a1 : Option Addr) (x : Addr) (c1 c2 : Nat) (w : World) (h1 : l.length = n1) (h2 : m.length = n2) (hb1 : Bytes w a1 l) (hb2 : Bytes w (some x) m) (hl : l.length + m.length ≤ 140737488355328) :
    Calls Tryd.prog 10 #[.slice a1 n1 c1, .slice (some x) n2 c2] w fun e w' => ∃ v, e = .returned v ∧ Own w' w.heap.size v (l ++ m) ∧ Below w.heap.size w w' := by
  subst h1 h2
  obtain ⟨i0, hi, hz0, hz1, hz2⟩ := info_parts Tryd.info5c
  have HB1 : Hid (Bytes w a1 l) := hb1
  have HB2 : Hid (Bytes w (some x) m) := hb2
  clear hb1 hb2
  go_enter Tryd.func10, Tryd.ntmps10
  go_wp2_with (first
    | (go_at_call 13; refine (copy_any l _ _ _ HB1.out (by omega)).mono ?_; rintro e w3 ⟨v3, rfl, ho3, hb3⟩; have HM3 : Hid (Bytes w3 (some x) m) := HB2.out.keep hb3)
    | (at_builtin; refine wpList_append_own _ rfl _ _ 22 rfl w.heap.size 5 i0 (.int .u8 0) 1 1 Tryd.underlying22 hi hz0 hz1 hz2 rfl (by decide) _ _ _ rfl ho3.2 x m.length c2 (B8 m) rfl (B8_length m) (bytes_cells HM3.out) (B8_one m) (by unfold maxLen; omega) (by omega) hb3.size ?_; intro v4 w4 ho4 hg4 _; have hb4 := grown_row (Below.refl w.heap.size w3) ho3.2 hb3.size hg4))
  go_ret
  exact ⟨v4, rfl, Own.append HB1.out.1 HB2.out.1 ho4, hb3.trans hb4⟩
end Go.Proofs.YtnecnedkoddihaaDoor
