/- Own texts, joined: Tlt, Tlu. -/
import Derived.Test.YtbdgiecnhgiogaaK03
import Derived.Deep.RegionWith
import Derived.Deep.RegionHeld3
namespace Go.Proofs.Ytbdgiecnhgiogaa
open Go.ChangeShapes Go.WideShapes Go.ChangeAt Go.RowKit
set_option linter.unusedVariables false
theorem own_empty (w : World) (base : Nat) (hb : base ≤ w.heap.size) : (w.alloc (.cells #[] 5)).ownsRow base 5 1 (.slice (some ⟨w.heap.size, 0, none⟩) 0 0) 0 [] := by
  refine ⟨by simp, .inr ⟨w.heap.size, 0, #[], rfl, hb, heap_alloc_new w _, by simp, by simp, by simp, by simp⟩⟩
theorem CurAt.keep {w w' : World} {c : Nat} {a : Option Addr} {n cap i : Nat} (h : CurAt w c a n cap i) (hb : Below w.heap.size w w') : CurAt w' c a n cap i := (hb.block c (lt_of_heap h)).trans h
set_option maxRecDepth 20000 in
set_option maxHeartbeats 1000000 in
theorem clone_any (l : List Nat) (b off n cap : Nat) (w : World) (hn : l.length = n) (h0 : 0 < n) (hb : Bytes w (some ⟨b, off, none⟩) l) (hl : n ≤ 140737488355328) :
    Calls Try.prog 43 #[.slice (some ⟨b, off, none⟩) n cap] w fun r w' => ∃ v, r = .returned v ∧ Own w' w.heap.size v l ∧ Below w.heap.size w w' := by
  obtain ⟨i0, hi, hz0, hz1, hz2⟩ := info_parts Try.info5
  have HB : Hid (Bytes w (some ⟨b, off, none⟩) l) := hb
  have HN : Hid (l.length = n) := hn
  have he : ∀ w : World, (binOp .eql 27 (.slice (some ⟨b, off, none⟩) n cap) (.slice none 0 0)).run Try.prog w = .ok (.bool false) w := fun _ => rfl
  have HO : Hid ((w.alloc (.cells #[] 5)).ownsRow w.heap.size 5 1 (.slice (some ⟨w.heap.size, 0, none⟩) 0 0) 0 []) := own_empty w _ (Nat.le_refl _)
  have HB2 : Hid (Bytes (w.alloc (.cells #[] 5)) (some ⟨b, off, none⟩) l) := hb.keep ((Below.refl _ _).alloc (Nat.le_refl _) _)
  clear hb hn
  go_enter Try.func43, Try.ntmps43
  go_wp2_with (at_builtin; refine wpList_append_own _ rfl _ _ 27 rfl w.heap.size 5 i0 (.int .u8 0) 1 1 Try.underlying27 hi hz0 hz1 hz2 rfl (by decide) _ _ _ rfl HO.out ⟨b, off, none⟩ n cap (B8 l) rfl (by rw [B8_length, HN.out]) (bytes_cells HB2.out) (B8_one _) (by unfold maxLen; omega) (by omega) (by simp) ?_; intro v4 w4 ho4 hg4 _; have hb4 := grown_row ((Below.refl w.heap.size w).alloc (Nat.le_refl _) _) HO.out (by simp) hg4; clear hg4)
  go_ret
  refine ⟨v4, rfl, ⟨HB.out.1, ?_⟩, hb4⟩
  have h := ho4
  rw [Nat.zero_add, List.nil_append] at h
  rw [HN.out]
  exact h
set_option maxRecDepth 20000 in
set_option maxHeartbeats 1000000 in
theorem text_long (b off n cap i u c : Nat) (w : World) (hc : CurAt w c (some ⟨b, off, none⟩) n cap i) (hu : 200 < u) (hu2 : u ≤ 18446744073709551615) :
    Calls Try.prog 50 #[.pointer (some ⟨c, 0, none⟩), .int .u64 (u : Int)] w fun r w' => r = errP 23 ∧ w' = w := by
  obtain ⟨h0, h1, h2⟩ := hc.cells
  clear hc
  go_enter Try.func50, Try.ntmps50
  go_wp2
  exact body_panic ⟨rfl, rfl⟩
set_option maxRecDepth 20000 in
set_option maxHeartbeats 1000000 in
theorem text_short (b off n cap i u c : Nat) (w : World) (hc : CurAt w c (some ⟨b, off, none⟩) n cap i) (hu : ¬ 200 < u) (hl : n ≤ 1024) (hi : i ≤ n) (hs : n < i + u) :
    Calls Try.prog 50 #[.pointer (some ⟨c, 0, none⟩), .int .u64 (u : Int)] w fun r w' => r = errP 10 ∧ ∃ m, w' = w.drewN m := by
  obtain ⟨h0, h1, h2⟩ := hc.cells
  have hk2 : (i : Int) + (u : Int) ≤ 2048 := by omega
  have hk3 : (n : Int) < (i : Int) + (u : Int) := by omega
  clear hc
  go_enter Try.func50, Try.ntmps50
  go_wp2
  exact body_panic ⟨rfl, 0, rfl⟩
end Go.Proofs.Ytbdgiecnhgiogaa
namespace Go.Proofs.Ytbdgiecnhgiogaa
open Go.ChangeShapes Go.WideShapes Go.ChangeAt Go.RowKit
set_option linter.unusedVariables false
set_option maxRecDepth 20000 in
set_option maxHeartbeats 1000000 in
theorem text_ok (l : List Nat) (b off n cap i u c : Nat) (w : World) (hc : CurAt w c (some ⟨b, off, none⟩) n cap i) (hn : l.length = n) (hb : Bytes w (some ⟨b, off, none⟩) l) (hcap : n ≤ cap) (hu : ¬ 200 < u) (hu0 : 0 < u) (hl : n ≤ 1024) (hs : i + u ≤ n) :
    Calls Try.prog 50 #[.pointer (some ⟨c, 0, none⟩), .int .u64 (u : Int)] w fun r w' => ∃ v, r = .returned v ∧ Own w' w.heap.size v ((l.drop i).take u) ∧ CurAt w' c (some ⟨b, off, none⟩) n cap (i + u) ∧ Kept c c w w' := by
  obtain ⟨h0, h1, h2⟩ := hc.cells
  have HC : Hid (CurAt w c (some ⟨b, off, none⟩) n cap i) := hc
  have HBq : Hid (Bytes w (some ⟨b, off + i, none⟩) ((l.drop i).take u)) := (hb.drop i).take u
  have HL2 : Hid (((l.drop i).take u).length = u) := by show _ = _; rw [List.length_take, List.length_drop, hn]; omega
  obtain ⟨E, hE⟩ : ∃ E : Nat, i + u = E := ⟨_, rfl⟩
  have hEI : (i : Int) + (u : Int) = (E : Int) := by omega
  have hiE : (i : Int) ≤ (E : Int) := by omega
  have hEn : (E : Int) ≤ (n : Int) := by omega
  have hEc : (E : Int) ≤ (cap : Int) := by omega
  have hEk : (E : Int) ≤ 1024 := by omega
  have hi0 : (0 : Int) ≤ (i : Int) := by omega
  have HEu : Hid (E - i = u) := by show _ = _; omega
  have HLE : Hid (((l.drop i).take u).length = E - i) := by show _ = _; rw [HL2.out]; omega
  have hEi : 0 < E - i := by omega
  have hEi2 : E - i ≤ 140737488355328 := by omega
  have hci : ¬ cap = i := by omega
  rw [hE]
  clear hc hb hn hE
  go_enter Try.func50, Try.ntmps50
  go_wp2
  go_region_held3 (fun w' => w'.cell? ⟨c, 0, none⟩ = some (.slice (some ⟨b, off, none⟩) n cap) ∧ w'.cell? ⟨c, 1, none⟩ = some (.int .i64 (i : Int))) (go_keep) ((go_at_call 43; refine (clone_any _ _ _ _ _ _ HLE.out hEi (HBq.out.drewN 1) hEi2).mono ?_; rintro r w1 ⟨v, rfl, ho, hb1⟩; have hcu := (HC.out.drewN 1).keep hb1; obtain ⟨g0, g1, g2⟩ := hcu.cells; have HO : Hid (Own w1 w.heap.size v ((l.drop i).take u)) := ho; have HB1 : Hid (Below w.heap.size (w.drewN 1) w1) := hb1; have HC1 : Hid (CurAt w1 c (some ⟨b, off, none⟩) n cap i) := hcu; clear ho hb1 hcu))
  go_wp2
  go_ret
  refine ⟨v, rfl, ⟨HO.out.1, ownsRow_setCell_below HO.out.2 (a := ⟨c, 1, none⟩) (show c < w.heap.size from lt_of_heap (show w.heap[c]? = _ from HC.out)) _⟩, HC1.out.to E, ?_⟩
  have hkp : Kept c c w w1 := ⟨HB1.out.os, HB1.out.tape, HB1.out.output, HB1.out.size, fun k hk _ _ => HB1.out.block k hk⟩
  exact hkp.set 1 _
end Go.Proofs.Ytbdgiecnhgiogaa
