/- daybookref16.Same of the same manifest. -/
import Derived.Test.YtoneaannbmkeiaaDoorMf4
import Derived.BigQuiet
namespace Go.Proofs.YtoneaannbmkeiaaDoor
open Go.ChangeShapes Go.WideShapes Go.ChangeAt Go.RowKit
set_option linter.unusedVariables false
set_option maxRecDepth 20000 in
set_option maxHeartbeats 4000000 in
theorem msame_yes (m : Mf) (n : Nat) (a1 a2 : Option Addr) (c1 c2 : Nat) (w : World) (hn : m.segs.length = n) (h1 : Sms w a1 m.segs) (h2 : Sms w a2 m.segs) (hl : n ≤ maxLen) :
    Calls Tryd.prog 13 #[MfV m (.slice a1 n c1), MfV m (.slice a2 n c2)] w fun e w' => e = .returned (.bool true) ∧ Below w.heap.size w w' := by
  obtain ⟨g, nx, fl, sn, sq, L⟩ := m
  simp only at hn h1 h2
  have HS : Hid (L.length = n ∧ Sms w a1 L ∧ Sms w a2 L) := ⟨hn, h1, h2⟩
  have b0 : (g != g) = false := by simp
  have b1 : (nx != nx) = false := by simp
  have b2 : (fl != fl) = false := by simp
  have b3 : (sn != sn) = false := by simp
  have b4 : (sq != sq) = false := by simp
  have b5 : ((n : Int) != (n : Int)) = false := by simp
  have hlI : (n : Int) ≤ 9223372036854775807 := by unfold maxLen at hl; omega
  clear hn h1 h2 hl
  simp only [MfV]
  obtain ⟨W0, hW0⟩ : ∃ W0, (w.alloc (.cells #[.int .i64 g, .int .i64 nx, .int .i64 fl, .int .i64 sn, .int .i64 sq, .slice a1 n c1] 24)).alloc (.cells #[.int .i64 g, .int .i64 nx, .int .i64 fl, .int .i64 sn, .int .i64 sq, .slice a2 n c2] 24) = W0 := ⟨_, rfl⟩
  have HW0 : Hid (Below w.heap.size w W0 ∧ MfAt W0 w.heap.size ⟨g, nx, fl, sn, sq, L⟩ (.slice a1 n c1) ∧ MfAt W0 (w.heap.size + 1) ⟨g, nx, fl, sn, sq, L⟩ (.slice a2 n c2)) := by
    rw [← hW0]
    refine ⟨((Below.refl _ _).alloc (Nat.le_refl _) _).alloc (by simp) _, (Below.heap_alloc _ _ _ (by simp)).trans (heap_alloc_new w _), ?_⟩
    have h := heap_alloc_new (w.alloc (.cells #[.int .i64 g, .int .i64 nx, .int .i64 fl, .int .i64 sn, .int .i64 sq, .slice a1 n c1] 24)) (.cells #[.int .i64 g, .int .i64 nx, .int .i64 fl, .int .i64 sn, .int .i64 sq, .slice a2 n c2] 24)
    rw [World.size_alloc] at h
    exact h
  have HWE : Hid ((w.alloc (.cells #[.int .i64 g, .int .i64 nx, .int .i64 fl, .int .i64 sn, .int .i64 sq, .slice a1 n c1] 24)).alloc (.cells #[.int .i64 g, .int .i64 nx, .int .i64 fl, .int .i64 sn, .int .i64 sq, .slice a2 n c2] 24) = W0) := hW0
  clear hW0
  go_enter Tryd.func13, Tryd.ntmps13
  go_wp2
  rw [HWE.out]
  clear HWE b0 b1 b2 b3 b4 b5
  go_loopw [51] (fun vi wr => ∃ k : Nat, k ≤ n ∧ vi = .int .i64 k ∧ Below W0.heap.size W0 wr) (fun vi _ => n - (intOf vi).toNat)
  case atStart => exact ⟨0, Nat.zero_le _, rfl, Below.refl _ _⟩
  case round =>
    obtain ⟨k, hk, rfl, hbr⟩ := hrel
    have HBW : Hid (Below w.heap.size w wr) := HW0.out.1.trans (hbr.mono HW0.out.1.size)
    by_cases hkn : k < n
    · obtain ⟨⟨p, q, c, f⟩, hp⟩ := sm_get (L := L) (k := k) (by rw [HS.out.1]; exact hkn)
      obtain ⟨x1, o1, e1, l1, c0, c1', c2', c3⟩ := (HS.out.2.1.keep HBW.out).cells k _ hp
      obtain ⟨x2, o2, e2, l2, d0, d1, d2, d3⟩ := (HS.out.2.2.keep HBW.out).cells k _ hp
      subst e1 e2
      simp only at c0 c1' c2' c3 d0 d1 d2 d3
      have m1 := HW0.out.2.1.after hbr
      have m2 := HW0.out.2.2.after hbr
      have k1 := m1.cell 5 _ rfl
      have k2 := m2.cell 5 _ rfl
      have y1 := m1.lt
      have y2 := m2.lt
      have hkI : (k : Int) < (n : Int) := by omega
      clear hp m1 m2
      go_wp2
      go_quiet (fail)
      go_wp2
      go_roundw
      case rel => exact ⟨k + 1, by omega, by go_num, bel_drewN hbr _⟩
      case measure => simp [intOf]; omega
    · obtain rfl : n = k := by omega
      go_wp2
      go_ret
      exact ⟨rfl, HBW.out⟩
end Go.Proofs.YtoneaannbmkeiaaDoor
