/- The law's head. -/
import Derived.Test.YtifackbilmkjlabMkK
import Derived.Test.YtifackbilmkjlabMkE
namespace Go.Proofs.Ytifackbilmkjlab
open Go.ChangeShapes Go.WideShapes Go.ChangeAt Go.RowKit
set_option linter.unusedVariables false
abbrev hd2 : List Mk := [(5, 30), (7, 90)]
theorem hd2_valid : validB hd2 = true := by decide
theorem hd2_enc : mEnc hd2 = [4, 5, 30, 2, 60] := by decide
theorem hd2_seek : seekR 6 hd2 = ((5, 30), true) := by decide
theorem marks_lit (w : World) : Marks (w.alloc (.cells #[.int .i64 5, .int .i64 30, .int .i64 7, .int .i64 90] 35)) (some ⟨w.heap.size, 0, none⟩) hd2 := by
  refine .inr ⟨w.heap.size, 0, rfl, by simp, fun j hj => ?_⟩
  rw [Nat.zero_add, cell_of_row _ w.heap.size j _ _ (0, 0) (heap_alloc_new w _)]
  simp [mfl]
set_option maxRecDepth 20000 in
set_option maxHeartbeats 2000000 in
theorem head13_any (w : World) :
    Calls Try.prog 4 #[] w fun e w' => e = .returned (.bool true) ∧ Below w.heap.size w w' := by
  have HM : Hid (Marks (w.alloc (.cells #[.int .i64 5, .int .i64 30, .int .i64 7, .int .i64 90] 35)) (some ⟨w.heap.size, 0, none⟩) hd2) := marks_lit w
  have HB : Hid (Below w.heap.size w (w.alloc (.cells #[.int .i64 5, .int .i64 30, .int .i64 7, .int .i64 90] 35))) := (Below.refl _ _).alloc (Nat.le_refl _) _
  go_enter Try.func4, Try.ntmps4
  have lit : ∀ w2 : World, Bytes ((w2.alloc (.cells #[.int .i64 5, .int .i64 30] 35)).alloc (.cells #[.int .u8 4, .int .u8 5, .int .u8 30, .int .u8 2, .int .u8 60] 5)) (some ⟨w2.heap.size + 1, 0, none⟩) [4, 5, 30, 2, 60] ∧ Below w2.heap.size w2 ((w2.alloc (.cells #[.int .i64 5, .int .i64 30] 35)).alloc (.cells #[.int .u8 4, .int .u8 5, .int .u8 30, .int .u8 2, .int .u8 60] 5)) := fun w2 => ⟨by have h := bytes_lit (w2.alloc (.cells #[.int .i64 5, .int .i64 30] 35)) [4, 5, 30, 2, 60] (getD_lt (by decide)); rw [World.size_alloc] at h; exact h, ((Below.refl _ _).alloc (Nat.le_refl _) _).alloc (by simp) _⟩
  have LIT : Hid (∀ w2 : World, Bytes ((w2.alloc (.cells #[.int .i64 5, .int .i64 30] 35)).alloc (.cells #[.int .u8 4, .int .u8 5, .int .u8 30, .int .u8 2, .int .u8 60] 5)) (some ⟨w2.heap.size + 1, 0, none⟩) [4, 5, 30, 2, 60] ∧ Below w2.heap.size w2 ((w2.alloc (.cells #[.int .i64 5, .int .i64 30] 35)).alloc (.cells #[.int .u8 4, .int .u8 5, .int .u8 30, .int .u8 2, .int .u8 60] 5))) := lit
  clear lit
  go_wp2_with (first
    | (go_at_call 9; refine (ienc_any hd2 2 _ _ _ rfl HM.out (by unfold maxLen; omega)).mono ?_; rw [if_pos hd2_valid, if_pos hd2_valid, hd2_enc]; rintro e w1 ⟨v1, rfl, ho1, hb1⟩; obtain ⟨g1, c1, rfl, hc1, hby1⟩ := ho1.row (by simp); clear ho1; have HM1 : Hid (Marks w1 (some ⟨w.heap.size, 0, none⟩) hd2) := HM.out.keep hb1; have hb1w : Below w.heap.size w w1 := below_next HB.out hb1)
    | (go_at_call 8; refine (seek_any hd2 2 _ _ 6 _ rfl HM1.out (rise_valid hd2_valid) (by omega)).mono ?_; rw [hd2_seek]; rintro e w2 ⟨rfl, hb2⟩; have hb2w : Below w.heap.size w w2 := below_next hb1w hb2; have HBY : Hid (Bytes w2 (some ⟨g1, 0, none⟩) [4, 5, 30, 2, 60]) := hby1.keep hb2; have HM2 : Hid (Marks w2 (some ⟨w.heap.size, 0, none⟩) hd2) := HM1.out.keep hb2)
    | (go_at_call 10; refine (same_at [4, 5, 30, 2, 60] [4, 5, 30, 2, 60] 5 5 _ _ _ _ _ rfl rfl (HBY.out.keep (LIT.out w2).2) (LIT.out w2).1 (by simp [maxLen]) (by simp [maxLen])).mono ?_; rw [decide_eq_true (rfl : [4, 5, 30, 2, 60] = [4, 5, 30, 2, 60])]; rintro e w3 ⟨rfl, n3, rfl⟩; have HB3 : Hid (Below w2.heap.size w2 (((w2.alloc (.cells #[.int .i64 5, .int .i64 30] 35)).alloc (.cells #[.int .u8 4, .int .u8 5, .int .u8 30, .int .u8 2, .int .u8 60] 5)).drewN n3)) := below_drewN (LIT.out w2).2 n3)
    | (go_at_call 6; refine (valid_any hd2 2 _ _ _ rfl (HM2.out.keep HB3.out) (by unfold maxLen; omega)).mono ?_; rw [hd2_valid]; rintro e w4 ⟨rfl, hb4⟩; have hb4w : Below w.heap.size w w4 := below_next (below_next hb2w HB3.out) (by simpa using hb4)))
  go_ret
  exact ⟨rfl, hb4w⟩
end Go.Proofs.Ytifackbilmkjlab
