/- Own texts, joined: Tlt. -/
import Derived.Test.YtfdaefhamoeaiaaK20
import Derived.Deep.RegionWith
namespace Go.Proofs.Ytfdaefhamoeaiaa
open Go.ChangeShapes Go.WideShapes Go.ChangeAt Go.RowKit
set_option linter.unusedVariables false
theorem own_empty (w : World) (base : Nat) (hb : base ≤ w.heap.size) : (w.alloc (.cells #[] 5)).ownsRow base 5 1 (.slice (some ⟨w.heap.size, 0, none⟩) 0 0) 0 [] := by
  refine ⟨by simp, .inr ⟨w.heap.size, 0, #[], rfl, hb, heap_alloc_new w _, by simp, by simp, by simp, by simp⟩⟩
theorem CurAt.keep {w w' : World} {c : Nat} {a : Option Addr} {n cap i : Nat} (h : CurAt w c a n cap i) (hb : Below w.heap.size w w') : CurAt w' c a n cap i := (hb.block c (lt_of_heap h)).trans h
set_option maxRecDepth 20000 in
set_option maxHeartbeats 1000000 in
theorem clone_any (l : List Nat) (b off n cap : Nat) (w : World) (hn : l.length = n) (h0 : 0 < n) (hb : Bytes w (some ⟨b, off, none⟩) l) (hl : n ≤ 140737488355328) :
    Calls Try.prog 47 #[.slice (some ⟨b, off, none⟩) n cap] w fun r w' => ∃ v, r = .returned v ∧ Own w' w.heap.size v l ∧ Below w.heap.size w w' := by
  obtain ⟨i0, hi, hz0, hz1, hz2⟩ := info_parts Try.info5
  have HB : Hid (Bytes w (some ⟨b, off, none⟩) l) := hb
  have HN : Hid (l.length = n) := hn
  have he : ∀ w : World, (binOp .eql 27 (.slice (some ⟨b, off, none⟩) n cap) (.slice none 0 0)).run Try.prog w = .ok (.bool false) w := fun _ => rfl
  have HO : Hid ((w.alloc (.cells #[] 5)).ownsRow w.heap.size 5 1 (.slice (some ⟨w.heap.size, 0, none⟩) 0 0) 0 []) := own_empty w _ (Nat.le_refl _)
  have HB2 : Hid (Bytes (w.alloc (.cells #[] 5)) (some ⟨b, off, none⟩) l) := hb.keep ((Below.refl _ _).alloc (Nat.le_refl _) _)
  clear hb hn
  go_enter Try.func47, Try.ntmps47
  go_wp2_with (at_builtin; refine wpList_append_own _ rfl _ _ 27 rfl w.heap.size 5 i0 (.int .u8 0) 1 1 Try.underlying27 hi hz0 hz1 hz2 rfl (by decide) _ _ _ rfl HO.out ⟨b, off, none⟩ n cap (B8 l) rfl (by rw [B8_length, HN.out]) (bytes_cells HB2.out) (B8_one _) (by unfold maxLen; omega) (by omega) (by simp) ?_; intro v4 w4 ho4 hg4 _; have hb4 := grown_row ((Below.refl w.heap.size w).alloc (Nat.le_refl _) _) HO.out (by simp) hg4; clear hg4)
  go_ret
  refine ⟨v4, rfl, ⟨HB.out.1, ?_⟩, hb4⟩
  have h := ho4
  rw [Nat.zero_add, List.nil_append] at h
  rw [HN.out]
  exact h
set_option maxRecDepth 20000 in
set_option maxHeartbeats 1000000 in
theorem text_long (b off n cap i u c : Nat) (w : World) (hc : CurAt w c (some ⟨b, off, none⟩) n cap i) (hu : 200 < u) (hu2 : u ≤ 18446744073709551615) :
    Calls Try.prog 73 #[.pointer (some ⟨c, 0, none⟩), .int .u64 (u : Int)] w fun r w' => r = errP 23 ∧ w' = w := by
  obtain ⟨h0, h1, h2⟩ := hc.cells
  clear hc
  go_enter Try.func73, Try.ntmps73
  go_wp2
  exact body_panic ⟨rfl, rfl⟩
set_option maxRecDepth 20000 in
set_option maxHeartbeats 1000000 in
theorem text_short (b off n cap i u c : Nat) (w : World) (hc : CurAt w c (some ⟨b, off, none⟩) n cap i) (hu : ¬ 200 < u) (hl : n ≤ 1024) (hi : i ≤ n) (hs : n < i + u) :
    Calls Try.prog 73 #[.pointer (some ⟨c, 0, none⟩), .int .u64 (u : Int)] w fun r w' => r = errP 10 ∧ ∃ m, w' = w.drewN m := by
  obtain ⟨h0, h1, h2⟩ := hc.cells
  have hk2 : (i : Int) + (u : Int) ≤ 2048 := by omega
  have hk3 : (n : Int) < (i : Int) + (u : Int) := by omega
  clear hc
  go_enter Try.func73, Try.ntmps73
  go_wp2
  exact body_panic ⟨rfl, 0, rfl⟩
end Go.Proofs.Ytfdaefhamoeaiaa
