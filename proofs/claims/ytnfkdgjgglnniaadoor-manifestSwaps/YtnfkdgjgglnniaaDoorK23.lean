/- Own texts, joined: Mfs, Mfh. -/
import Derived.Test.YtnfkdgjgglnniaaDoorK15
import Derived.BigQuiet
import Derived.Test.YtnfkdgjgglnniaaDoorK21
import Derived.Test.YtnfkdgjgglnniaaDoorK22
import Derived.Deep.RegionHeld3
namespace Go.Proofs.YtnfkdgjgglnniaaDoor
open Go.ChangeShapes Go.WideShapes Go.ChangeAt Go.RowKit
set_option linter.unusedVariables false
set_option maxRecDepth 20000 in
set_option maxHeartbeats 4000000 in
theorem msame_yes (m : Mf) (n : Nat) (a1 a2 : Option Addr) (c1 c2 : Nat) (w : World) (hn : m.segs.length = n) (h1 : Sms w a1 m.segs) (h2 : Sms w a2 m.segs) (hl : n ≤ maxLen) :
    Calls Tryd.prog 13 #[MfV m (.slice a1 n c1), MfV m (.slice a2 n c2)] w fun e w' => e = .returned (.bool true) ∧ Below w.heap.size w w' := by
  obtain ⟨g, nx, fl, sn, sq, L⟩ := m
  simp only at hn h1 h2
  have HS : Hid (L.length = n ∧ Sms w a1 L ∧ Sms w a2 L) := ⟨hn, h1, h2⟩
  have b0 : (g != g) = false := by simp
  have b1 : (nx != nx) = false := by simp
  have b2 : (fl != fl) = false := by simp
  have b3 : (sn != sn) = false := by simp
  have b4 : (sq != sq) = false := by simp
  have b5 : ((n : Int) != (n : Int)) = false := by simp
  have hlI : (n : Int) ≤ 9223372036854775807 := by unfold maxLen at hl; omega
  clear hn h1 h2 hl
  simp only [MfV]
  obtain ⟨W0, hW0⟩ : ∃ W0, (w.alloc (.cells #[.int .i64 g, .int .i64 nx, .int .i64 fl, .int .i64 sn, .int .i64 sq, .slice a1 n c1] 24)).alloc (.cells #[.int .i64 g, .int .i64 nx, .int .i64 fl, .int .i64 sn, .int .i64 sq, .slice a2 n c2] 24) = W0 := ⟨_, rfl⟩
  have HW0 : Hid (Below w.heap.size w W0 ∧ MfAt W0 w.heap.size ⟨g, nx, fl, sn, sq, L⟩ (.slice a1 n c1) ∧ MfAt W0 (w.heap.size + 1) ⟨g, nx, fl, sn, sq, L⟩ (.slice a2 n c2)) := by
    rw [← hW0]
    refine ⟨((Below.refl _ _).alloc (Nat.le_refl _) _).alloc (by simp) _, (Below.heap_alloc _ _ _ (by simp)).trans (heap_alloc_new w _), ?_⟩
    have h := heap_alloc_new (w.alloc (.cells #[.int .i64 g, .int .i64 nx, .int .i64 fl, .int .i64 sn, .int .i64 sq, .slice a1 n c1] 24)) (.cells #[.int .i64 g, .int .i64 nx, .int .i64 fl, .int .i64 sn, .int .i64 sq, .slice a2 n c2] 24)
    rw [World.size_alloc] at h
    exact h
  have HWE : Hid ((w.alloc (.cells #[.int .i64 g, .int .i64 nx, .int .i64 fl, .int .i64 sn, .int .i64 sq, .slice a1 n c1] 24)).alloc (.cells #[.int .i64 g, .int .i64 nx, .int .i64 fl, .int .i64 sn, .int .i64 sq, .slice a2 n c2] 24) = W0) := hW0
  clear hW0
  go_enter Tryd.func13, Tryd.ntmps13
  go_wp2
  rw [HWE.out]
  clear HWE b0 b1 b2 b3 b4 b5
  go_loopw [51] (fun vi wr => ∃ k : Nat, k ≤ n ∧ vi = .int .i64 k ∧ Below W0.heap.size W0 wr) (fun vi _ => n - (intOf vi).toNat)
  case atStart => exact ⟨0, Nat.zero_le _, rfl, Below.refl _ _⟩
  case round =>
    obtain ⟨k, hk, rfl, hbr⟩ := hrel
    have HBW : Hid (Below w.heap.size w wr) := HW0.out.1.trans (hbr.mono HW0.out.1.size)
    by_cases hkn : k < n
    · obtain ⟨⟨p, q, c, f⟩, hp⟩ := sm_get (L := L) (k := k) (by rw [HS.out.1]; exact hkn)
      obtain ⟨x1, o1, e1, l1, c0, c1', c2', c3⟩ := (HS.out.2.1.keep HBW.out).cells k _ hp
      obtain ⟨x2, o2, e2, l2, d0, d1, d2, d3⟩ := (HS.out.2.2.keep HBW.out).cells k _ hp
      subst e1 e2
      simp only at c0 c1' c2' c3 d0 d1 d2 d3
      have m1 := HW0.out.2.1.after hbr
      have m2 := HW0.out.2.2.after hbr
      have k1 := m1.cell 5 _ rfl
      have k2 := m2.cell 5 _ rfl
      have y1 := m1.lt
      have y2 := m2.lt
      have hkI : (k : Int) < (n : Int) := by omega
      clear hp m1 m2
      go_wp2
      go_quiet (fail)
      go_wp2
      go_roundw
      case rel => exact ⟨k + 1, by omega, by go_num, bel_drewN hbr _⟩
      case measure => simp [intOf]; omega
    · obtain rfl : n = k := by omega
      go_wp2
      go_ret
      exact ⟨rfl, HBW.out⟩
end Go.Proofs.YtnfkdgjgglnniaaDoor
namespace Go.Proofs.YtnfkdgjgglnniaaDoor
open Go.ChangeShapes Go.WideShapes Go.ChangeAt Go.RowKit
set_option linter.unusedVariables false
/-- the first manifest -/
abbrev m1 : Mf := ⟨1, 2, 0, 0, 0, [⟨1, 1, 0, 0⟩]⟩
theorem m1_valid : mvB m1 = true := by decide
theorem m1_len : (mfL m1).length = 29 := by
  rw [show mfL m1 = frameL 4 (1 : Int).toNat (encAll (mfN m1)) from if_pos m1_valid, frameL_length]
  decide
theorem m1_e : mfE m1 = 0 := if_pos m1_valid
theorem m1_md : mdM (mfL m1) = m1 ∧ mdE (mfL m1) = 0 := by
  unfold mdM mdE
  rw [md_back m1 m1_valid]
  exact ⟨rfl, rfl⟩
set_option maxRecDepth 20000 in
set_option maxHeartbeats 1000000 in
theorem first16_any (w : World) : Calls Tryd.prog 7 #[] w fun e w' => ∃ g, e = .returned (MfV m1 (.slice (some ⟨g, 0, none⟩) 1 1)) ∧ Sms w' (some ⟨g, 0, none⟩) [⟨1, 1, 0, 0⟩] ∧ Below w.heap.size w w' := by
  have HM0 : Hid (MfAt ((w.alloc (.cells (mfA zeroM (.slice none 0 0)) 24)).alloc (.cells #[.int .i64 1, .int .i64 1, .int .i64 0, .int .i64 0] 55)) w.heap.size zeroM (.slice none 0 0)) := (MfAt.new w zeroM _).after ((Below.refl _ _).alloc (Nat.le_refl _) _)
  go_enter Tryd.func7, Tryd.ntmps7
  go_wp2_with ((with_reducible refine frm_store 24 ?_); refine wpList_store_mf rfl _ _ rfl rfl HM0.out rfl (m2 := m1) (a2 := some ⟨w.heap.size + 1, 0, none⟩) (n2 := 1) (c2 := 1) rfl ?_; intro w3 hf3 ho3 hh3 hs3)
  (try simp only [Exit.inBlock, Exit.then])
  refine bodyPost_ret (results_mf1 rfl _ _ w.heap.size rfl hf3) rfl ⟨w.heap.size + 1, rfl, ?_, ho3 _ _ (((Below.refl _ _).alloc (Nat.le_refl _) _).alloc (by simp) _) (Nat.le_refl _)⟩
  have hb : w3.heap[w.heap.size + 1]? = some (.cells #[.int .i64 1, .int .i64 1, .int .i64 0, .int .i64 0] 55) := by
    rw [hh3 _ (by omega)]
    have h := heap_alloc_new (w.alloc (.cells (mfA zeroM (.slice none 0 0)) 24)) (.cells #[.int .i64 1, .int .i64 1, .int .i64 0, .int .i64 0] 55)
    rw [World.size_alloc] at h
    exact h
  refine .inr ⟨w.heap.size + 1, 0, rfl, lt_of_heap hb, fun j hj => ?_⟩
  rw [Nat.zero_add, cell_of_row _ _ j _ _ _ hb]
  simp [sfl]
set_option maxRecDepth 20000 in
set_option maxHeartbeats 4000000 in
theorem head16_any (w : World) (ht : Tab w) : Calls Tryd.prog 4 #[] w fun e w' => e = .returned (.bool true) ∧ Below w.heap.size w w' := by
  have HT : Hid (Tab w) := ht
  have T1 : Hid True := trivial
  clear ht
  go_enter Tryd.func4, Tryd.ntmps4
  go_wp2_with (first
    | (go_at_call 7; clear T1; refine (first16_any _).mono ?_; rintro _ w1 ⟨g1, rfl, hs1, hb1⟩; have H1 : Hid (Sms w1 (some ⟨g1, 0, none⟩) [⟨1, 1, 0, 0⟩] ∧ Below w.heap.size w w1) := ⟨hs1, hb1⟩; clear hs1 hb1)
    | (go_at_call 14; refine (menc_any m1 1 _ _ _ rfl H1.out.1 (by unfold maxLen; omega) (HT.out.keep H1.out.2)).mono ?_; rw [m1_e]; rintro _ w2 ⟨v2, rfl, ho2, hb2⟩; obtain ⟨a2, c2, hv2, hc2, _, hy2, _⟩ := ho2.shape; rw [m1_len] at hv2 hc2; subst hv2; have H2 : Hid (Bytes w2 a2 (mfL m1) ∧ 29 ≤ c2 ∧ Below w.heap.size w w2) := ⟨hy2, hc2, below_next H1.out.2 hb2⟩; clear ho2 hb2 hy2 hc2)
    | (go_at_call 15; refine (mdec_any (mfL m1) 29 a2 c2 _ m1_len H2.out.1 H2.out.2.1 (by omega) (HT.out.keep H2.out.2.2)).mono ?_; rw [m1_md.1, m1_md.2]; rintro _ w3 ⟨v3, rfl, ho3, hb3⟩; obtain ⟨a3, c3, hv3, _, _, hs3, _⟩ := ho3.shape; rw [show m1.segs.length = 1 from rfl] at hv3; subst hv3; have H3 : Hid (Sms w3 a3 [⟨1, 1, 0, 0⟩] ∧ Below w.heap.size w w3) := ⟨hs3, below_next H2.out.2.2 hb3⟩; clear ho3 hb3 hs3))
  obtain ⟨W4, hW4⟩ : ∃ W4, w3.alloc (.cells #[.int .i64 1, .int .i64 2, .int .i64 0, .int .i64 0, .int .i64 0, .slice a3 1 c3] 24) = W4 := ⟨_, rfl⟩
  have hm4 : MfAt W4 w3.heap.size m1 (.slice a3 1 c3) := by rw [← hW4]; exact MfAt.new w3 m1 _
  have H4 : Hid (MfAt W4 w3.heap.size m1 (.slice a3 1 c3) ∧ Sms W4 a3 [⟨1, 1, 0, 0⟩] ∧ Below w.heap.size w W4) := ⟨hm4, by rw [← hW4]; exact H3.out.1.keep ((Below.refl _ _).alloc (Nat.le_refl _) _), by rw [← hW4]; exact H3.out.2.alloc H3.out.2.size _⟩
  obtain ⟨q0, q1, q2, q3, q4, q5⟩ := hm4.cells
  rw [hW4]
  clear hW4 hm4 H3
  go_region_held3 (fun y => y.cell? ⟨w3.heap.size, 0, none⟩ = some (.int .i64 1) ∧ y.cell? ⟨w3.heap.size, 1, none⟩ = some (.int .i64 2) ∧ y.cell? ⟨w3.heap.size, 2, none⟩ = some (.int .i64 0) ∧ y.cell? ⟨w3.heap.size, 3, none⟩ = some (.int .i64 0) ∧ y.cell? ⟨w3.heap.size, 4, none⟩ = some (.int .i64 0) ∧ y.cell? ⟨w3.heap.size, 5, none⟩ = some (.slice a3 1 c3)) (go_keep) (first
    | (go_at_call 7; refine (first16_any _).mono ?_; rintro _ w5 ⟨g5, rfl, hs5, hb5⟩; have H5 : Hid (MfAt w5 w3.heap.size m1 (.slice a3 1 c3) ∧ Sms w5 a3 [⟨1, 1, 0, 0⟩] ∧ Below w.heap.size w w5 ∧ Sms w5 (some ⟨g5, 0, none⟩) [⟨1, 1, 0, 0⟩]) := ⟨(H4.out.1.after (Below.refl _ _).drew).after hb5, (H4.out.2.1.keep (Below.refl _ _).drew).keep hb5, below_next (below_next H4.out.2.2 (Below.refl _ _).drew) hb5, hs5⟩; obtain ⟨x0, x1, x2, x3, x4, x5⟩ := H5.out.1.cells; clear hs5 hb5)
    | (go_at_call 13; refine (msame_yes m1 1 a3 (some ⟨g5, 0, none⟩) c3 1 _ rfl H5.out.2.1 H5.out.2.2.2 (by unfold maxLen; omega)).mono ?_; rintro _ w6 ⟨rfl, hb6⟩; have H6 : Hid (MfAt w6 w3.heap.size m1 (.slice a3 1 c3) ∧ Sms w6 a3 [⟨1, 1, 0, 0⟩] ∧ Below w.heap.size w w6) := ⟨H5.out.1.after hb6, H5.out.2.1.keep hb6, below_next H5.out.2.2.1 hb6⟩; obtain ⟨y0, y1, y2, y3, y4, y5⟩ := H6.out.1.cells; clear hb6)
    | (go_at_call 16; refine (msize_any m1 1 a3 c3 _ rfl H6.out.2.1 (by unfold maxLen; omega) (HT.out.keep H6.out.2.2)).mono ?_; rw [m1_len]; rintro _ w7 ⟨rfl, hb7⟩; have H7 : Hid (MfAt w7 w3.heap.size m1 (.slice a3 1 c3) ∧ Sms w7 a3 [⟨1, 1, 0, 0⟩] ∧ Below w.heap.size w w7) := ⟨H6.out.1.after hb7, H6.out.2.1.keep hb7, below_next H6.out.2.2 hb7⟩; obtain ⟨z0, z1, z2, z3, z4, z5⟩ := H7.out.1.cells; clear hb7)
    | (go_at_call 8; refine (mvalid_any m1 1 a3 c3 _ rfl H7.out.2.1 (by unfold maxLen; omega)).mono ?_; rw [m1_valid]; rintro _ w8 ⟨rfl, hb8⟩; have H8 : Hid (MfAt w8 w3.heap.size m1 (.slice a3 1 c3) ∧ Below w.heap.size w w8) := ⟨H7.out.1.after hb8, below_next H7.out.2.2 hb8⟩; obtain ⟨u0, u1, u2, u3, u4, u5⟩ := H8.out.1.cells; clear hb8))
  go_wp2
  go_ret
  exact ⟨rfl, H8.out.2⟩
end Go.Proofs.YtnfkdgjgglnniaaDoor
