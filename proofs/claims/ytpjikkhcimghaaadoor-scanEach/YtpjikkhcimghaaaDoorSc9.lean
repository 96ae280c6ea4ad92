/- The two frames of the head. -/
import Derived.Test.YtpjikkhcimghaaaDoorSc7
import Derived.Test.YtpjikkhcimghaaaDoorFr7
namespace Go.Proofs.YtpjikkhcimghaaaDoor
open Go.ChangeShapes Go.WideShapes Go.ChangeAt Go.RowKit Go.Shelf
set_option linter.unusedVariables false
def hdL : List Nat := frameL 1 5 [0] ++ frameL 1 6 [1]
def hdN : List Nat := [165, 1, 1, 0, 5, 0, 0, 0, 0, 0, 0, 0]
set_option maxRecDepth 100000 in
theorem hd_len : hdL.length = 42 := by kernel_rfl
set_option maxRecDepth 100000 in
theorem hd_scan : scanL hdL = [⟨0, 1, 5, [0]⟩, ⟨21, 1, 6, [1]⟩] := by kernel_rfl
set_option maxRecDepth 100000 in
theorem hd_allE : allE hdL = 0 := by unfold allE; rw [hd_scan, hd_len]; rfl
theorem hd_run : runL hdL 0 5 1 = [⟨0, 1, 5, [0]⟩] := by
  unfold runL
  rw [List.drop_zero, hd_scan]
  rfl
theorem hd_end : endZ 0 (scanL hdL) = 42 := by rw [hd_scan]; rfl
def layL : Nat → List Nat
  | 0 => []
  | 1 => [] ++ frameL 1 5 [0]
  | _ => [] ++ frameL 1 5 [0] ++ frameL 1 6 [1]
set_option maxRecDepth 20000 in
set_option maxHeartbeats 2000000 in
theorem lay_hd (w : World) (g : Nat) (s0 s1 : Addr) (hg : w.heap[g]? = some (.cells #[.int .i64 1, .int .i64 5, .slice (some s0) 1 1, .int .i64 1, .int .i64 6, .slice (some s1) 1 1] 32)) (h0 : Bytes w (some s0) [0]) (h1 : Bytes w (some s1) [1]) :
    Calls Tryd.prog 9 #[.slice (some ⟨g, 0, none⟩) 2 2] w fun e w' => ∃ v, e = .returned v ∧ Own w' w.heap.size v hdL ∧ Below w.heap.size w w' := by
  obtain ⟨i0, hi, hz0, hz1, hz2⟩ := info_parts Tryd.info5f
  have HG : Hid (w.heap[g]? = some (.cells #[.int .i64 1, .int .i64 5, .slice (some s0) 1 1, .int .i64 1, .int .i64 6, .slice (some s1) 1 1] 32) ∧ Bytes w (some s0) [0] ∧ Bytes w (some s1) [1]) := ⟨hg, h0, h1⟩
  have HF0 : Hid ((frameL 1 5 [0]).length = 21) := frameL_length _ _ _
  have HF1 : Hid ((frameL 1 6 [1]).length = 21) := frameL_length _ _ _
  have HLY : Hid ((layL 0).length = 0 ∧ (layL 1).length = 21) := ⟨rfl, HF0.out⟩
  clear hg h0 h1
  go_enter Tryd.func9, Tryd.ntmps9
  go_wp2
  go_loopw [3, 10] (fun vb vi wr => ∃ (v0 : Value) (k : Nat), v0 = vb ∧ k ≤ 2 ∧ vi = .int .i64 k ∧ Own wr w.heap.size v0 (layL k) ∧ Below w.heap.size w wr) (fun _ vi _ => 2 - (intOf vi).toNat)
  case atStart => exact ⟨_, 0, rfl, Nat.zero_le _, rfl, own_lit w [] (by simp) (by simp), (Below.refl _ _).alloc (Nat.le_refl _) _⟩
  case round =>
    obtain ⟨vb, k, rfl, hk, rfl, hO, hbe⟩ := hrel
    have hsz := hbe.size
    have hgr : wr.heap[g]? = some (.cells #[.int .i64 1, .int .i64 5, .slice (some s0) 1 1, .int .i64 1, .int .i64 6, .slice (some s1) 1 1] 32) := (hbe.block g (lt_of_heap HG.out.1)).trans HG.out.1
    have c0 : wr.cell? ⟨g, 0, none⟩ = some (.int .i64 1) := by rw [cell_of_row _ _ 0 _ _ _ hgr]; rfl
    have c1 : wr.cell? ⟨g, 1, none⟩ = some (.int .i64 5) := by rw [cell_of_row _ _ 1 _ _ _ hgr]; rfl
    have c2 : wr.cell? ⟨g, 2, none⟩ = some (.slice (some s0) 1 1) := by rw [cell_of_row _ _ 2 _ _ _ hgr]; rfl
    have c3 : wr.cell? ⟨g, 3, none⟩ = some (.int .i64 1) := by rw [cell_of_row _ _ 3 _ _ _ hgr]; rfl
    have c4 : wr.cell? ⟨g, 4, none⟩ = some (.int .i64 6) := by rw [cell_of_row _ _ 4 _ _ _ hgr]; rfl
    have c5 : wr.cell? ⟨g, 5, none⟩ = some (.slice (some s1) 1 1) := by rw [cell_of_row _ _ 5 _ _ _ hgr]; rfl
    have H0 : Hid (Bytes wr (some s0) [0]) := HG.out.2.1.keep hbe
    have H1 : Hid (Bytes wr (some s1) [1]) := HG.out.2.2.keep hbe
    have HO : Hid (Own wr w.heap.size vb (layL k)) := hO
    clear hO hgr
    by_cases hk0 : k = 0
    · subst hk0
      go_wp2_with (first
          | (go_at_call 16; refine (rfenc_ok 1 5 [0] (some s0) 1 1 _ (by omega) (by omega) (by omega) rfl (by omega) H0.out (fun h => by cases h)).mono ?_; rintro r w1 ⟨v1, rfl, ho1, hb1⟩; obtain ⟨g1, p1, hv1, hc1, hy1⟩ := ho1.row (by intro h; have := congrArg List.length h; rw [frameL_length] at this; simp at this); rw [HF0.out] at hv1; subst hv1; have HO1 : Hid (w1.ownsRow w.heap.size 5 1 vb 0 (B8 (layL 0))) := (by have h := own_below HO.out.2 hb1; rw [HLY.out.1] at h; exact h); have HS1 : Hid (w.heap.size ≤ w1.heap.size) := Nat.le_trans hsz hb1.size; have HB1 : Hid (Below w.heap.size w w1) := hbe.trans (hb1.mono hsz); have HY1 : Hid (Bytes w1 (some ⟨g1, 0, none⟩) (frameL 1 5 [0])) := hy1; clear ho1 hb1 hy1)
          | (at_builtin; refine wpList_append_own _ rfl _ _ 22 rfl w.heap.size 5 i0 (.int .u8 0) 1 1 Tryd.underlying22 hi hz0 hz1 hz2 rfl (by decide) _ _ _ rfl HO1.out ⟨g1, 0, none⟩ 21 p1 (B8 (frameL 1 5 [0])) rfl (by rw [B8_length, HF0.out]) (bytes_cells HY1.out) (B8_one _) (by unfold maxLen; omega) (by omega) HS1.out ?_; intro v3 w3 ho3 hg3 _; have HB3 : Hid (Below w.heap.size w w3) := grown_row HB1.out HO1.out HS1.out hg3; have HO3 : Hid (Own w3 w.heap.size v3 (layL 1)) := (by show Own _ _ _ (layL 0 ++ frameL 1 5 [0]); refine Own.append HO.out.1 (getD_lt (frameL_lt 1 5 [0] (by omega) (by simp))) ?_; rw [HLY.out.1, HF0.out]; exact ho3); clear ho3 hg3))
      exact ⟨⟨_, 1, rfl, by omega, rfl, HO3.out, HB3.out⟩, by simp [intOf]⟩

    · by_cases hk1 : k = 1
      · subst hk1
        go_wp2_with (first
          | (go_at_call 16; refine (rfenc_ok 1 6 [1] (some s1) 1 1 _ (by omega) (by omega) (by omega) rfl (by omega) H1.out (fun h => by cases h)).mono ?_; rintro r w1 ⟨v1, rfl, ho1, hb1⟩; obtain ⟨g1, p1, hv1, hc1, hy1⟩ := ho1.row (by intro h; have := congrArg List.length h; rw [frameL_length] at this; simp at this); rw [HF1.out] at hv1; subst hv1; have HO1 : Hid (w1.ownsRow w.heap.size 5 1 vb 21 (B8 (layL 1))) := (by have h := own_below HO.out.2 hb1; rw [HLY.out.2] at h; exact h); have HS1 : Hid (w.heap.size ≤ w1.heap.size) := Nat.le_trans hsz hb1.size; have HB1 : Hid (Below w.heap.size w w1) := hbe.trans (hb1.mono hsz); have HY1 : Hid (Bytes w1 (some ⟨g1, 0, none⟩) (frameL 1 6 [1])) := hy1; clear ho1 hb1 hy1)
          | (at_builtin; refine wpList_append_own _ rfl _ _ 22 rfl w.heap.size 5 i0 (.int .u8 0) 1 1 Tryd.underlying22 hi hz0 hz1 hz2 rfl (by decide) _ _ _ rfl HO1.out ⟨g1, 0, none⟩ 21 p1 (B8 (frameL 1 6 [1])) rfl (by rw [B8_length, HF1.out]) (bytes_cells HY1.out) (B8_one _) (by unfold maxLen; omega) (by omega) HS1.out ?_; intro v3 w3 ho3 hg3 _; have HB3 : Hid (Below w.heap.size w w3) := grown_row HB1.out HO1.out HS1.out hg3; have HO3 : Hid (Own w3 w.heap.size v3 (layL 2)) := (by show Own _ _ _ (layL 1 ++ frameL 1 6 [1]); refine Own.append HO.out.1 (getD_lt (frameL_lt 1 6 [1] (by omega) (by simp))) ?_; rw [HLY.out.2, HF1.out]; exact ho3); clear ho3 hg3))
        exact ⟨⟨_, 2, rfl, by omega, rfl, HO3.out, HB3.out⟩, by simp [intOf]⟩

      · obtain rfl : k = 2 := by omega
        go_wp2
        go_ret
        exact ⟨_, rfl, HO.out, hbe⟩
end Go.Proofs.YtpjikkhcimghaaaDoor
