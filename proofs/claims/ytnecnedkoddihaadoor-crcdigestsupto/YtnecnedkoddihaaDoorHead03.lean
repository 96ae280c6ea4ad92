/- What daybooklaw03.head answers. -/
import Derived.Test.YtnecnedkoddihaaDoorCrc
import Derived.Lib.SlBytesConst
namespace Go.Proofs.YtnecnedkoddihaaDoor
open Go.ChangeShapes Go.WideShapes Go.ChangeAt Go.RowKit
theorem sum19 : Crcm.sum [49, 50, 51, 52, 53, 54, 55, 56, 57] = 3421780262 := by decide +kernel
set_option maxRecDepth 20000 in
set_option maxHeartbeats 400000 in
theorem head03_any (w : World) (ht : Tab w) :
    Calls Tryd.prog 6 #[] w fun e w' => e = .returned (.bool true) ∧ Below w.heap.size w w' := by
  have HB : Hid (_) := bytes_lit_mark w [49, 50, 51, 52, 53, 54, 55, 56, 57] (9, 10) (getD_lt (by decide))
  have kc := fun (w : World) (C : Array Value) (n c : Nat) => Lib.run_convert_bytes_const (P := Tryd.prog) w 22 5 C n c Tryd.underlying22 Tryd.underlying5
  have HT : Hid (Tab (w.alloc (.cells (B8 [49, 50, 51, 52, 53, 54, 55, 56, 57]).toArray 5 (9, 10)))) := ht.keep ((Below.refl _ _).alloc (Nat.le_refl _) _)
  clear ht
  go_enter Tryd.func6, Tryd.ntmps6
  go_wp2_with (go_at_call 8; refine (sum_any [49, 50, 51, 52, 53, 54, 55, 56, 57] 9 _ _ _ rfl HB.out (by simp [maxLen]) HT.out).mono ?_; rw [sum19]; rintro e w' ⟨rfl, rfl⟩)
  go_ret
  exact ⟨rfl, (Below.refl _ _).alloc (Nat.le_refl _) _⟩
end Go.Proofs.YtnecnedkoddihaaDoor
