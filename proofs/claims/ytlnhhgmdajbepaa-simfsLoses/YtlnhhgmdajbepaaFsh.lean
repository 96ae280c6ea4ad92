/- daybooklaw10: the head. -/
import Derived.Test.YtlnhhgmdajbepaaFso
namespace Go.Proofs.Ytlnhhgmdajbepaa
open Go.ChangeShapes Go.WideShapes Go.ChangeAt Go.RowKit
set_option linter.unusedVariables false
set_option linter.unusedSimpArgs false
abbrev nA : List UInt8 := [97]
abbrev fA : Fi := ⟨nA, .slice none 0 0, [], 0⟩
abbrev dA1 : Dk := putD (stepD (newD 10)) fA
abbrev dA2 (v : Value) : Dk := apD dA1 fA v [1, 2, 3]
theorem a0_bar : barE (newD 10) [nA] = 0 := by decide
theorem a1_bar : barE dA1 [nA] = 0 := by decide
theorem a2_bar (v : Value) : barE (dA2 v) [nA] = 0 := rfl
theorem a1_get : getN dA1.fs nA = some fA := rfl
theorem a2_get (v : Value) : getN (dA2 v).fs nA = some ⟨nA, v, [1, 2, 3], 0⟩ := rfl
theorem a1_ok : DkOk dA1 := ⟨⟨by decide, by decide⟩, by decide, ⟨by decide, by decide⟩, wrap_rng (0 + 1), ⟨by decide, by decide⟩, by decide, fun f hf => by rcases List.mem_singleton.1 hf with rfl; decide, fun f hf => by rcases List.mem_singleton.1 hf with rfl; decide⟩
theorem a2_used (v : Value) : usedN (dA2 v).fs = 3 := rfl
theorem a2_room (v : Value) : (dA2 v).room = 10 := rfl
theorem a2_ok (v : Value) : DkOk (dA2 v) := ⟨⟨by rw [a2_room]; decide, by rw [a2_room]; decide⟩, by rw [a2_used, a2_room]; decide, ⟨by show (0 : Int) ≤ 0; decide, by show (0 : Int) ≤ _; decide⟩, wrap_rng (wrap64 (0 + 1) + 1), ⟨by show _ ≤ (0 : Int); decide, by show (0 : Int) ≤ _; decide⟩, by show 1 ≤ 700; decide, fun f hf => by rcases List.mem_singleton.1 hf with rfl; show 1 ≤ 24; decide, fun f hf => by rcases List.mem_singleton.1 hf with rfl; exact Nat.zero_le _⟩
theorem bytes_lit3 (x : World) : Bytes (x.alloc (.cells #[.int .u8 1, .int .u8 2, .int .u8 3] 5)) (some ⟨x.heap.size, 0, none⟩) [1, 2, 3] := by
  refine ⟨fun i => ?_, .inr ⟨x.heap.size, 0, rfl, by simp, fun i hi => ?_⟩⟩
  · match i with
    | 0 => decide
    | 1 => decide
    | 2 => decide
    | _ + 3 => simp
  · rw [Nat.zero_add, cell_of_row _ _ i _ _ _ (heap_alloc_new x _)]
    match i, hi with
    | 0, _ => rfl
    | 1, _ => rfl
    | 2, _ => rfl
    | _ + 3, h => exact absurd h (by simp)
set_option maxRecDepth 100000 in
set_option maxHeartbeats 4000000 in
theorem head10_any (w : World) : Calls Try.prog 13 #[] w fun r w' => r = .returned (.bool true) ∧ Below w.heap.size w w' := by
  have T1 : Hid True := trivial
  obtain ⟨i0, hi, hz0, hz1, hz2⟩ := info8
  go_enter Try.func13, Try.ntmps13
  go_wp2_with (first
    | (go_at_call 14; refine (fsnew_any 10 w (by decide) (by decide)).mono ?_; rintro _ x1 ⟨q, b, rfl, hd1, hb1⟩; have HD1 : Hid (DkAt x1 w.heap.size q b (newD 10)) := hd1; have HB1 : Hid (Below w.heap.size w x1) := hb1; clear hd1 hb1)
    | (go_at_call 26; refine (create_ok x1 w.heap.size q b (newD 10) HD1.out (newD_ok 10) nA (by decide) a0_bar rfl (by decide) rfl).mono ?_; rintro _ x2 ⟨rfl, hd2, hc2⟩; have HB2 : Hid (Below w.heap.size w (x2.alloc (.cells #[.int .u8 1, .int .u8 2, .int .u8 3] 5))) := ((hc2.to_below HD1.out HB1.out HB1.out.size).alloc (Nat.le_trans HB1.out.size hc2.size) _); have HD2 : Hid (DkAt (x2.alloc (.cells #[.int .u8 1, .int .u8 2, .int .u8 3] 5)) w.heap.size q b dA1) := hd2.keep ((Below.refl _ _).alloc (Nat.le_refl _) _); clear hd2 hc2)
    | (go_at_call 28; clear T1; refine (append_ok _ w.heap.size q b dA1 HD2.out a1_ok nA (by decide) a1_bar fA a1_get (some ⟨x2.heap.size, 0, none⟩) 3 3 [1, 2, 3] rfl (bytes_lit3 x2) (Nat.le_refl _) (fun e => by cases e) (by decide)).mono ?_; rw [show stepE dA1 = 0 from rfl]; rintro _ x3 ⟨rfl, v3, hd3, hc3⟩; have HB3 : Hid (Below w.heap.size w x3) := (hc3.to_below HD2.out HB2.out HB2.out.size); have HD3 : Hid (DkAt x3 w.heap.size q b (dA2 v3)) := hd3; clear hd3 hc3)
    | (go_at_call 38; refine (used_any x3 w.heap.size q b (dA2 v3) HD3.out (by rw [a2_used]; decide)).mono ?_; rw [a2_used]; rintro _ x4 ⟨rfl, hb4⟩; have HB4 : Hid (Below w.heap.size w x4) := HB3.out.trans (hb4.mono HB3.out.size); have HD4 : Hid (DkAt x4 w.heap.size q b (dA2 v3)) := HD3.out.keep hb4; clear hb4)
    | (go_at_call 31; refine (free_any x4 w.heap.size q b (dA2 v3) HD4.out (a2_ok v3)).mono ?_; rw [a2_used, a2_room]; rintro _ x5 ⟨rfl, hb5⟩; have HB5 : Hid (Below w.heap.size w x5) := HB4.out.trans (hb5.mono HB4.out.size); obtain ⟨x6, hmk0, ho6, hg6⟩ := run_make_full (P := Try.prog) x5 x5.heap.size 31 5 i0 (.int .u8 0) 1 Try.underlying31 hi hz0 hz1 .i64 .i64 8 (by rw [hz2]; decide) (by decide) (Nat.le_refl _); have hmk : (Instr.makeSlice 31 (.int .i64 8) (.int .i64 8)).run Try.prog x5 = .ok (.slice (some ⟨x5.heap.size, 0, none⟩) 8 8) x6 := hmk0; have hb6 : Below x5.heap.size x5 x6 := (Below.refl _ _).grown hg6 (Nat.le_refl _) (fun k hk => by cases hk); have HB6 : Hid (Below w.heap.size w x6) := HB5.out.trans (hb6.mono HB5.out.size); have HD6 : Hid (DkAt x6 w.heap.size q b (dA2 v3)) := (HD4.out.keep hb5).keep hb6; clear ho6 hg6 hb6 hb5 hmk0)
    | (go_at_call 28; refine (append_full x6 w.heap.size q b (dA2 v3) HD6.out (a2_ok v3) nA (by decide) (a2_bar v3) _ (a2_get v3) _ 8 8 (by decide) (by rw [a2_used, a2_room]; decide)).mono ?_; rintro _ x7 ⟨rfl, hb7⟩; have HB7 : Hid (Below w.heap.size w x7) := HB6.out.trans (hb7.mono HB6.out.size); clear hb7)
    | go_in)
  go_ret
  exact ⟨rfl, HB7.out⟩
end Go.Proofs.Ytlnhhgmdajbepaa
