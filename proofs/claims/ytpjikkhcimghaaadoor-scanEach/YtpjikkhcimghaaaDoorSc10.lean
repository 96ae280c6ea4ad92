/- The head of the laws on scan. -/
import Derived.Test.YtpjikkhcimghaaaDoorSc9
namespace Go.Proofs.YtpjikkhcimghaaaDoor
open Go.ChangeShapes Go.WideShapes Go.ChangeAt Go.RowKit Go.Shelf
set_option linter.unusedVariables false
theorem OwnP.of {W : World} {base : Nat} {v : Value} {xs : List It} (h1 : W.ownsRow base 34 5 v xs.length (pflt xs)) (h2 : ∀ x ∈ xs, Own W base x.bv x.fm.body) : OwnP W base v xs := ⟨h1, h2⟩
theorem runN_len (first most : Int) : ∀ (L : List Fm) (i : Nat), (runN first most i L).length ≤ L.length
  | [], i => by simp [runN]
  | f :: L, i => by
    unfold runN
    split
    · simp
    · simp only [List.length_cons]; have := runN_len first most L (i + 1); omega
theorem runL_len (l : List Nat) (d : Nat) (first most : Int) : 20 * (runL l d first most).length ≤ l.length := by
  have h1 := runN_len first most (scanL (l.drop d)) 0
  have h2 := scanL_count (l.drop d)
  rw [List.length_drop] at h2
  unfold runL
  rw [List.length_map]
  omega
theorem two_items {xs : List It} {f g : Fm} (h : xs.map It.fm = [f, g]) : ∃ x0 x1 : It, xs = [x0, x1] ∧ x0.fm = f ∧ x1.fm = g := by
  cases xs with
  | nil => cases h
  | cons x0 r =>
    cases r with
    | nil => simp at h
    | cons x1 r =>
      cases r with
      | nil => simp at h; exact ⟨x0, x1, rfl, h.1, h.2⟩
      | cons x2 r => simp at h
theorem hd_end1 : endZ 0 [(⟨0, 1, 5, [0]⟩ : Fm)] = 21 := rfl
set_option maxRecDepth 20000 in
set_option maxHeartbeats 2000000 in
theorem head12_any (w : World) (ht : Tab w) :
    Calls Tryd.prog 4 #[] w fun e w' => e = .returned (.bool true) ∧ Below w.heap.size w w' := by
  obtain ⟨W3, hW3⟩ : ∃ W3, ((w.alloc (.cells #[.int .u8 0] 5)).alloc (.cells #[.int .u8 1] 5)).alloc (.cells #[.int .i64 1, .int .i64 5, .slice (some ⟨w.heap.size, 0, none⟩) 1 1, .int .i64 1, .int .i64 6, .slice (some ⟨w.heap.size + 1, 0, none⟩) 1 1] 32) = W3 := ⟨_, rfl⟩
  have HW : Hid (((w.alloc (.cells #[.int .u8 0] 5)).alloc (.cells #[.int .u8 1] 5)).alloc (.cells #[.int .i64 1, .int .i64 5, .slice (some ⟨w.heap.size, 0, none⟩) 1 1, .int .i64 1, .int .i64 6, .slice (some ⟨w.heap.size + 1, 0, none⟩) 1 1] 32) = W3) := hW3
  have HB3 : Hid (Below w.heap.size w W3) := by show Below _ _ _; rw [← hW3]; exact (((Below.refl _ w).alloc (Nat.le_refl _) _).alloc (by simp) _).alloc (by simp; omega) _
  have HLY : Hid (Calls Tryd.prog 9 #[.slice (some ⟨w.heap.size + 1 + 1, 0, none⟩) 2 2] W3 fun e w' => ∃ v, e = .returned v ∧ Own w' W3.heap.size v hdL ∧ Below W3.heap.size W3 w') := by
    refine lay_hd W3 (w.heap.size + 1 + 1) ⟨w.heap.size, 0, none⟩ ⟨w.heap.size + 1, 0, none⟩ ?_ ?_ ?_
    · have h := heap_alloc_new ((w.alloc (.cells #[.int .u8 0] 5)).alloc (.cells #[.int .u8 1] 5)) (.cells #[.int .i64 1, .int .i64 5, .slice (some ⟨w.heap.size, 0, none⟩) 1 1, .int .i64 1, .int .i64 6, .slice (some ⟨w.heap.size + 1, 0, none⟩) 1 1] 32)
      rw [World.size_alloc, World.size_alloc, hW3] at h
      exact h
    · have h := (own_lit w [0] (getD_lt (by simp)) (by simp [maxLen])).row (by simp)
      obtain ⟨g, cap, e, _, hb⟩ := h
      cases e
      rw [← hW3]
      exact (hb.keep ((Below.refl _ _).alloc (Nat.le_refl _) _)).keep ((Below.refl _ _).alloc (Nat.le_refl _) _)
    · have h := (own_lit (w.alloc (.cells #[.int .u8 0] 5)) [1] (getD_lt (by simp)) (by simp [maxLen])).row (by simp)
      obtain ⟨g, cap, e, _, hb⟩ := h
      cases e
      rw [← hW3]
      rw [World.size_alloc] at hb
      exact hb.keep ((Below.refl _ _).alloc (Nat.le_refl _) _)
  have HT : Hid (Tab w) := ht
  clear ht hW3
  go_enter Tryd.func4, Tryd.ntmps4
  go_wp2_with (first
    | (go_at_call 9; rw [HW.out]; refine HLY.out.mono ?_; rintro e w1 ⟨v1, rfl, ho1, hb1⟩; obtain ⟨g1, p1, hv1, hc1, hy1⟩ := ho1.row (by intro h; have := congrArg List.length h; rw [hd_len] at this; simp at this); rw [hd_len] at hv1 hc1; subst hv1; have HY1 : Hid (Bytes w1 (some ⟨g1, 0, none⟩) hdL) := hy1; have HB1 : Hid (Below w.heap.size w w1) := HB3.out.trans (hb1.mono HB3.out.size); clear ho1 hb1 hy1)
    | (go_at_call 10; refine (all_any hdL 42 _ _ _ hd_len HY1.out hc1 (by omega) (HT.out.keep HB1.out)).mono ?_; rw [hd_end, hd_allE, hd_scan]; rintro e w2 ⟨xs, v2, rfl, hx2, hr2, hy2, hb2⟩; obtain ⟨a2, c2, rfl, hp2⟩ := (OwnP.of hr2 hy2).plc; obtain ⟨x0, x1, hxs, e0, e1⟩ := two_items hx2; subst hxs; obtain ⟨b2, off2, rfl, hl2, k0, _⟩ := hp2.at 1 x1 rfl; rw [e1] at k0; have HB2 : Hid (Below w1.heap.size w1 w2) := hb2; clear hr2 hy2 hb2 hp2 hx2)
    | (go_at_call 11; refine (run_any hdL 42 _ _ 0 5 1 _ hd_len (HY1.out.keep HB2.out) hc1 (by omega) (by omega) (by omega) (by omega) ((HT.out.keep HB1.out).keep HB2.out)).mono ?_; rw [hd_run, hd_end1]; rintro e w4 ⟨ys, v4, rfl, hx4, hr4, hy4, hb4⟩; obtain ⟨a4, c4, rfl⟩ := row_shape hr4; have hl4 : ys.length = 1 := (by have := congrArg List.length hx4; simpa using this); rw [hl4]; have k4 : w4.cell? ⟨b2, off2 + 1 * 5, none⟩ = some (.int .i64 21) := (hb4.cell (p := ⟨b2, off2 + 1 * 5, none⟩) hl2).trans k0; have HB4 : Hid (Below w2.heap.size w2 w4) := hb4; clear hr4 hy4 hb4 hx4))
  go_ret
  exact ⟨rfl, (HB1.out.trans (HB2.out.mono HB1.out.size)).trans (HB4.out.mono (Nat.le_trans HB1.out.size HB2.out.size))⟩
end Go.Proofs.YtpjikkhcimghaaaDoor
