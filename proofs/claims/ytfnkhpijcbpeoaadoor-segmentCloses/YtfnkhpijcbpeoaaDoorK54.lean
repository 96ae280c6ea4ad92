/- Own texts, joined: Sh2. -/
import Derived.Test.YtfnkhpijcbpeoaaDoorK47
import Derived.Test.YtfnkhpijcbpeoaaDoorK43
import Derived.Test.YtfnkhpijcbpeoaaDoorK41
import Derived.Test.YtfnkhpijcbpeoaaDoorK21
namespace Go.Proofs.YtfnkhpijcbpeoaaDoor
open Go.ChangeShapes Go.WideShapes Go.ChangeAt Go.RowKit Go.Shelf
set_option linter.unusedVariables false
def lay3 : Nat → List Nat
  | 0 => hdrL 1 1
  | k + 1 => lay3 k ++ frameL 1 (k + 1) [0]
theorem Tryd.info5l : (Tryd.prog.info? 5).map (fun i => (i.zero, i.size, i.bytes)) = some (some (.int .u8 0), 1, 1) := by kernel_rfl
set_option maxRecDepth 20000 in
set_option maxHeartbeats 2000000 in
theorem rlay3_any (w : World) (g : Nat) (s0 s1 s2 : Addr) (hg : w.heap[g]? = some (.cells #[.slice (some s0) 1 1, .slice (some s1) 1 1, .slice (some s2) 1 1] 22)) (h0 : Bytes w (some s0) [0]) (h1 : Bytes w (some s1) [0]) (h2 : Bytes w (some s2) [0]) :
    Calls Tryd.prog 5 #[.int .i64 1, .int .i64 1, .slice (some ⟨g, 0, none⟩) 3 3, .int .i64 0] w fun e w' => ∃ v, e = .returned v ∧ Own w' w.heap.size v (lay3 3) ∧ Below w.heap.size w w' := by
  obtain ⟨i0, hi, hz0, hz1, hz2⟩ := info_parts Tryd.info5l
  have HG : Hid (w.heap[g]? = some (.cells #[.slice (some s0) 1 1, .slice (some s1) 1 1, .slice (some s2) 1 1] 22) ∧ Bytes w (some s0) [0] ∧ Bytes w (some s1) [0] ∧ Bytes w (some s2) [0]) := ⟨hg, h0, h1, h2⟩
  have HF1 : Hid ((frameL 1 1 [0]).length = 21) := frameL_length _ _ _
  have HF2 : Hid ((frameL 1 2 [0]).length = 21) := frameL_length _ _ _
  have HF3 : Hid ((frameL 1 3 [0]).length = 21) := frameL_length _ _ _
  have HL0 : Hid ((lay3 0).length = 22) := by show (hdrL 1 1).length = 22; kernel_rfl
  have HL1 : Hid ((lay3 1).length = 43) := by show (lay3 0 ++ frameL 1 1 [0]).length = 43; rw [List.length_append, HL0.out, HF1.out]
  have HL2 : Hid ((lay3 2).length = 64) := by show (lay3 1 ++ frameL 1 2 [0]).length = 64; rw [List.length_append, HL1.out, HF2.out]
  have HV : Hid (hdE 1 1 = 0 ∧ hdV 1 1 = hdrL 1 1) := ⟨rfl, rfl⟩
  clear hg h0 h1 h2
  go_enter Tryd.func5, Tryd.ntmps5
  go_wp2_with (go_at_call 13; refine (rheader_any 1 1 _).mono ?_; rw [HV.out.1, HV.out.2]; rintro r w0 ⟨v0, rfl, ho0, hb0⟩; have HO0 : Hid (Own w0 w.heap.size v0 (lay3 0)) := ho0; have HB0 : Hid (Below w.heap.size w w0) := hb0; clear ho0 hb0)
  go_loopw [9, 24] (fun vb vi wr => ∃ (v9 : Value) (k : Nat), v9 = vb ∧ k ≤ 3 ∧ vi = .int .i64 k ∧ Own wr w.heap.size v9 (lay3 k) ∧ Below w.heap.size w wr) (fun _ vi _ => 3 - (intOf vi).toNat)
  case atStart => exact ⟨_, 0, rfl, Nat.zero_le _, rfl, HO0.out, HB0.out⟩
  case round =>
    clear HO0 HB0
    obtain ⟨vb, k, rfl, hk, rfl, hO, hbe⟩ := hrel
    have hsz := hbe.size
    have hgr : wr.heap[g]? = some (.cells #[.slice (some s0) 1 1, .slice (some s1) 1 1, .slice (some s2) 1 1] 22) := (hbe.block g (lt_of_heap HG.out.1)).trans HG.out.1
    have c0 : wr.cell? ⟨g, 0, none⟩ = some (.slice (some s0) 1 1) := by rw [cell_of_row _ _ 0 _ _ _ hgr]; rfl
    have c1 : wr.cell? ⟨g, 1, none⟩ = some (.slice (some s1) 1 1) := by rw [cell_of_row _ _ 1 _ _ _ hgr]; rfl
    have c2 : wr.cell? ⟨g, 2, none⟩ = some (.slice (some s2) 1 1) := by rw [cell_of_row _ _ 2 _ _ _ hgr]; rfl
    have H0 : Hid (Bytes wr (some s0) [0]) := HG.out.2.1.keep hbe
    have H1 : Hid (Bytes wr (some s1) [0]) := HG.out.2.2.1.keep hbe
    have H2 : Hid (Bytes wr (some s2) [0]) := HG.out.2.2.2.keep hbe
    have HO : Hid (Own wr w.heap.size vb (lay3 k)) := hO
    clear hO hgr
    by_cases hk0 : k = 0
    · subst hk0
      go_wp2_with (first
        | (go_at_call 14; refine (rfenc_ok 1 1 [0] (some s0) 1 1 _ (by omega) (by omega) (by omega) rfl (by omega) H0.out (fun h => by cases h)).mono ?_; rintro r w1 ⟨v1, rfl, ho1, hb1⟩; obtain ⟨g1, p1, hv1, hc1, hy1⟩ := ho1.row (by intro h; have := congrArg List.length h; rw [frameL_length] at this; simp at this); rw [HF1.out] at hv1; subst hv1; have HO1 : Hid (w1.ownsRow w.heap.size 5 1 vb 22 (B8 (lay3 0))) := (by have h := own_below HO.out.2 hb1; rw [HL0.out] at h; exact h); have HS1 : Hid (w.heap.size ≤ w1.heap.size) := Nat.le_trans hsz hb1.size; have HB1 : Hid (Below w.heap.size w w1) := hbe.trans (hb1.mono hsz); have HY1 : Hid (Bytes w1 (some ⟨g1, 0, none⟩) (frameL 1 1 [0])) := hy1; clear ho1 hb1 hy1)
        | (at_builtin; refine wpList_append_own _ rfl _ _ 22 rfl w.heap.size 5 i0 (.int .u8 0) 1 1 Tryd.underlying22 hi hz0 hz1 hz2 rfl (by decide) _ _ _ rfl HO1.out ⟨g1, 0, none⟩ 21 p1 (B8 (frameL 1 1 [0])) rfl (by rw [B8_length, HF1.out]) (bytes_cells HY1.out) (B8_one _) (by unfold maxLen; omega) (by omega) HS1.out ?_; intro v3 w3 ho3 hg3 _; have HB3 : Hid (Below w.heap.size w w3) := grown_row HB1.out HO1.out HS1.out hg3; have HO3 : Hid (Own w3 w.heap.size v3 (lay3 1)) := (by show Own _ _ _ (lay3 0 ++ frameL 1 1 [0]); refine Own.append HO.out.1 (getD_lt (frameL_lt 1 1 [0] (by omega) (by simp))) ?_; rw [HL0.out, HF1.out]; exact ho3); clear ho3 hg3))
      exact ⟨⟨_, 1, rfl, by omega, rfl, HO3.out, HB3.out⟩, by simp [intOf]⟩
    · by_cases hk1 : k = 1
      · subst hk1
        go_wp2_with (first
          | (go_at_call 14; refine (rfenc_ok 1 2 [0] (some s1) 1 1 _ (by omega) (by omega) (by omega) rfl (by omega) H1.out (fun h => by cases h)).mono ?_; rintro r w1 ⟨v1, rfl, ho1, hb1⟩; obtain ⟨g1, p1, hv1, hc1, hy1⟩ := ho1.row (by intro h; have := congrArg List.length h; rw [frameL_length] at this; simp at this); rw [HF2.out] at hv1; subst hv1; have HO1 : Hid (w1.ownsRow w.heap.size 5 1 vb 43 (B8 (lay3 1))) := (by have h := own_below HO.out.2 hb1; rw [HL1.out] at h; exact h); have HS1 : Hid (w.heap.size ≤ w1.heap.size) := Nat.le_trans hsz hb1.size; have HB1 : Hid (Below w.heap.size w w1) := hbe.trans (hb1.mono hsz); have HY1 : Hid (Bytes w1 (some ⟨g1, 0, none⟩) (frameL 1 2 [0])) := hy1; clear ho1 hb1 hy1)
          | (at_builtin; refine wpList_append_own _ rfl _ _ 22 rfl w.heap.size 5 i0 (.int .u8 0) 1 1 Tryd.underlying22 hi hz0 hz1 hz2 rfl (by decide) _ _ _ rfl HO1.out ⟨g1, 0, none⟩ 21 p1 (B8 (frameL 1 2 [0])) rfl (by rw [B8_length, HF2.out]) (bytes_cells HY1.out) (B8_one _) (by unfold maxLen; omega) (by omega) HS1.out ?_; intro v3 w3 ho3 hg3 _; have HB3 : Hid (Below w.heap.size w w3) := grown_row HB1.out HO1.out HS1.out hg3; have HO3 : Hid (Own w3 w.heap.size v3 (lay3 2)) := (by show Own _ _ _ (lay3 1 ++ frameL 1 2 [0]); refine Own.append HO.out.1 (getD_lt (frameL_lt 1 2 [0] (by omega) (by simp))) ?_; rw [HL1.out, HF2.out]; exact ho3); clear ho3 hg3))
        exact ⟨⟨_, 2, rfl, by omega, rfl, HO3.out, HB3.out⟩, by simp [intOf]⟩
      · by_cases hk2 : k = 2
        · subst hk2
          go_wp2_with (first
            | (go_at_call 14; refine (rfenc_ok 1 3 [0] (some s2) 1 1 _ (by omega) (by omega) (by omega) rfl (by omega) H2.out (fun h => by cases h)).mono ?_; rintro r w1 ⟨v1, rfl, ho1, hb1⟩; obtain ⟨g1, p1, hv1, hc1, hy1⟩ := ho1.row (by intro h; have := congrArg List.length h; rw [frameL_length] at this; simp at this); rw [HF3.out] at hv1; subst hv1; have HO1 : Hid (w1.ownsRow w.heap.size 5 1 vb 64 (B8 (lay3 2))) := (by have h := own_below HO.out.2 hb1; rw [HL2.out] at h; exact h); have HS1 : Hid (w.heap.size ≤ w1.heap.size) := Nat.le_trans hsz hb1.size; have HB1 : Hid (Below w.heap.size w w1) := hbe.trans (hb1.mono hsz); have HY1 : Hid (Bytes w1 (some ⟨g1, 0, none⟩) (frameL 1 3 [0])) := hy1; clear ho1 hb1 hy1)
            | (at_builtin; refine wpList_append_own _ rfl _ _ 22 rfl w.heap.size 5 i0 (.int .u8 0) 1 1 Tryd.underlying22 hi hz0 hz1 hz2 rfl (by decide) _ _ _ rfl HO1.out ⟨g1, 0, none⟩ 21 p1 (B8 (frameL 1 3 [0])) rfl (by rw [B8_length, HF3.out]) (bytes_cells HY1.out) (B8_one _) (by unfold maxLen; omega) (by omega) HS1.out ?_; intro v3 w3 ho3 hg3 _; have HB3 : Hid (Below w.heap.size w w3) := grown_row HB1.out HO1.out HS1.out hg3; have HO3 : Hid (Own w3 w.heap.size v3 (lay3 3)) := (by show Own _ _ _ (lay3 2 ++ frameL 1 3 [0]); refine Own.append HO.out.1 (getD_lt (frameL_lt 1 3 [0] (by omega) (by simp))) ?_; rw [HL2.out, HF3.out]; exact ho3); clear ho3 hg3))
          exact ⟨⟨_, 3, rfl, by omega, rfl, HO3.out, HB3.out⟩, by simp [intOf]⟩
        · obtain rfl : k = 3 := by omega
          go_wp2
          go_ret
          exact ⟨_, rfl, HO.out, hbe⟩
set_option maxRecDepth 100000 in
theorem l3_len : (lay3 3).length = 85 := by kernel_rfl
set_option maxRecDepth 100000 in
theorem l3_e : ftE (lay3 3) 2 = 0 := by kernel_rfl
/-- its footer -/
def f3 : List Nat := ftV (lay3 3) 2
set_option maxRecDepth 100000 in
theorem f3_cl : clR f3 1 1 3 85 = some ([(1, 22), (3, 64)], 2) := by kernel_rfl
set_option maxRecDepth 100000 in
theorem f3_len : f3.length ≤ 1000 := by
  have h : decide (f3.length ≤ 1000) = true := by kernel_rfl
  exact of_decide_eq_true h
end Go.Proofs.YtfnkhpijcbpeoaaDoor
