/- What daybooklaw02.head answers. -/
import Derived.Test.YtiehkgcfaebmhaaEnc
import Derived.Test.YtiehkgcfaebmhaaDec
namespace Go.Proofs.Ytiehkgcfaebmhaa
open Go.ChangeShapes Go.WideShapes Go.ChangeAt Go.RowKit
theorem enc300 : enc 300 = [172, 2] := by decide
theorem dec300 : dec 0 0 [172, 2, 85] = (300, 2, 0) := by decide
set_option maxRecDepth 20000 in
set_option maxHeartbeats 1000000 in
theorem head02_any (w : World) :
    Calls Try.prog 4 #[] w fun e w' => e = .returned (.bool true) ∧ Below w.heap.size w w' := by
  have HD : Hid (dec 0 0 [172, 2, 85] = (300, 2, 0)) := dec300
  go_enter Try.func4, Try.ntmps4
  go_wp2_with (go_at_call 5; refine (encode_any 300 w (by omega)).mono ?_; rw [enc300]; rintro e w1 ⟨v, rfl, ho, hb⟩; obtain ⟨a, cap, rfl, _, _, hby, hs⟩ := ho.shape; obtain ⟨g, off, rfl, hg, hc⟩ := hby.nonempty (by simp); have hc0 := hc 0 (by simp); have hc1 := hc 1 (by simp); simp at hc0 hc1; clear hc ho hby hs)
  have hl := bytes_lit w1 [172, 2, 85] (getD_lt (by decide))
  refine (dec_any [172, 2, 85] _ _ _ hl (by simp [maxLen])).mono ?_
  rw [HD.out]
  rintro e w2 ⟨rfl, rfl⟩
  clear hl
  go_wp2
  go_ret
  exact ⟨rfl, hb.alloc hb.size _⟩
end Go.Proofs.Ytiehkgcfaebmhaa
