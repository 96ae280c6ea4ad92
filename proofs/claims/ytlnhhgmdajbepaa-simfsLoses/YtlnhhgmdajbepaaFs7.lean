/- simfs: Free. -/
import Derived.Test.YtlnhhgmdajbepaaFs6
namespace Go.Proofs.Ytlnhhgmdajbepaa
open Go.ChangeShapes Go.WideShapes Go.ChangeAt Go.RowKit
set_option linter.unusedVariables false
set_option linter.unusedSimpArgs false
set_option maxRecDepth 100000 in
set_option maxHeartbeats 2000000 in
theorem free_any (w : World) (base q b : Nat) (D : Dk) (h : DkAt w base q b D) (ho : DkOk D) :
    Calls Try.prog 31 #[.pointer (some ⟨q, 0, none⟩)] w fun r w' => r = .returned (.int .i64 (D.room - (usedN D.fs : Nat))) ∧ Below w.heap.size w w' := by
  have hR1 := ho.room
  have hR2 := ho.used
  have c0 := h.cells.1
  obtain ⟨R, hR⟩ : ∃ R, D.room = R := ⟨_, rfl⟩
  obtain ⟨U, hU⟩ : ∃ U : Nat, usedN D.fs = U := ⟨_, rfl⟩
  rw [hR] at hR1 hR2 c0 ⊢
  rw [hU] at hR2 ⊢
  have hU0 : (0 : Int) ≤ (U : Int) := by omega
  have HU : Hid (usedN D.fs = U) := hU
  have HUL : Hid ((usedN D.fs : Int) ≤ 67108864) := by show _ ≤ _; rw [hU]; omega
  have HD : Hid (DkAt w base q b D) := h
  have HX : Hid (∀ x1 : World, Below w.heap.size w x1 → x1.cell? ⟨q, 0, none⟩ = some (.int .i64 R)) := fun x1 hb => by rw [(h.keep hb).cells.1, hR]
  have HW : Hid (IntKind.i64.wrap (R - (U : Int)) = R - (U : Int)) := by show _ = _; rw [wrap_i64]; omega
  clear hR hU h ho
  go_enter Try.func31, Try.ntmps31
  go_wp2
  go_region_with (go_at_call 38; go_loud (refine (used_any w.drew base q b D (HD.out.moved (fun _ _ _ => rfl)) HUL.out).mono ?_; rw [HU.out]; rintro _ x1 ⟨rfl, hb⟩; have hb1 : Below w.heap.size w x1 := (Below.refl _ w).drew.trans hb; have c0x := HX.out _ hb1; have HB1 : Hid (Below w.heap.size w x1) := hb1; clear hb hb1))
  all_goals go_wp2
  all_goals go_ret
  all_goals exact ⟨by show Ending.returned (Value.int .i64 (IntKind.i64.wrap (R - (U : Int)))) = _; rw [HW.out], HB1.out⟩
end Go.Proofs.Ytlnhhgmdajbepaa
