/- Own texts, joined: Rm3, Mfc. -/
import Derived.Test.YtoneaannbmkeiaaDoorK28
import Derived.Test.YtoneaannbmkeiaaDoorK29
import Derived.Test.YtoneaannbmkeiaaDoorK14
import Derived.Test.YtoneaannbmkeiaaDoorK30
import Derived.Test.YtoneaannbmkeiaaDoorK31
import Derived.Deep.Onto
import Derived.Deep.RegionHeld3
import Derived.Test.YtoneaannbmkeiaaDoorK20
import Derived.Deep.RegionLaw
import Derived.Deep.AppendLies
namespace Go.Proofs.YtoneaannbmkeiaaDoor
open Go.ChangeShapes Go.WideShapes Go.ChangeAt Go.RowKit
set_option linter.unusedVariables false
theorem rmvalid_any (m : Mf) (n : Nat) (a : Option Addr) (cap : Nat) (w : World) (hn : m.segs.length = n) (hS : Sms w a m.segs) (hl : n ≤ maxLen) :
    Calls Tryd.prog 18 #[MfV m (.slice a n cap)] w fun e w' => e = .returned (.bool (mvB m)) ∧ Below w.heap.size w w' := by
  obtain ⟨g, nx, fl, sn, sq, L⟩ := m
  simp only at hn hS
  have bad : ¬ headB ⟨g, nx, fl, sn, sq, L⟩ = true → mvB ⟨g, nx, fl, sn, sq, L⟩ = false := fun h => by unfold mvB; rw [show headB ⟨g, nx, fl, sn, sq, L⟩ = false from by simpa using h]; rfl
  have hd : headB ⟨g, nx, fl, sn, sq, L⟩ = true ↔ _ := ⟨headB_facts, fun h => decide_eq_true h⟩
  simp only at hd
  by_cases h0 : 1 ≤ g
  rotate_left
  · rw [bad (fun h => by rw [hd] at h; omega)]
    exact rmv_no0 g nx fl sn sq a n cap w  (by omega)
  by_cases h1 : g ≤ 1099511627776
  rotate_left
  · rw [bad (fun h => by rw [hd] at h; omega)]
    exact rmv_no1 g nx fl sn sq a n cap w h0 (by omega)
  by_cases h2 : 2 ≤ nx
  rotate_left
  · rw [bad (fun h => by rw [hd] at h; omega)]
    exact rmv_no2 g nx fl sn sq a n cap w h0 h1 (by omega)
  by_cases h3 : nx ≤ 1000000
  rotate_left
  · rw [bad (fun h => by rw [hd] at h; omega)]
    exact rmv_no3 g nx fl sn sq a n cap w h0 h1 h2 (by omega)
  by_cases h4 : 0 ≤ sq
  rotate_left
  · rw [bad (fun h => by rw [hd] at h; omega)]
    exact rmv_no4 g nx fl sn sq a n cap w h0 h1 h2 h3 (by omega)
  by_cases h5 : sq ≤ 1099511627776
  rotate_left
  · rw [bad (fun h => by rw [hd] at h; omega)]
    exact rmv_no5 g nx fl sn sq a n cap w h0 h1 h2 h3 h4 (by omega)
  by_cases h6 : 0 ≤ fl
  rotate_left
  · rw [bad (fun h => by rw [hd] at h; omega)]
    exact rmv_no6 g nx fl sn sq a n cap w h0 h1 h2 h3 h4 h5 (by omega)
  by_cases h7 : fl ≤ sq
  rotate_left
  · rw [bad (fun h => by rw [hd] at h; omega)]
    exact rmv_no7 g nx fl sn sq a n cap w h0 h1 h2 h3 h4 h5 h6 (by omega)
  by_cases h8 : 0 ≤ sn
  rotate_left
  · rw [bad (fun h => by rw [hd] at h; omega)]
    exact rmv_no8 g nx fl sn sq a n cap w h0 h1 h2 h3 h4 h5 h6 h7 (by omega)
  by_cases h9 : sn < nx
  rotate_left
  · rw [bad (fun h => by rw [hd] at h; omega)]
    exact rmv_no9 g nx fl sn sq a n cap w h0 h1 h2 h3 h4 h5 h6 h7 h8 (by omega)
  by_cases z1 : sn = 0
  · have b1 : (sn == 0) = true := by simp; exact z1
    have b3 : (sn != 0) = false := by simp; exact z1
    by_cases z2 : sq = 0
    · have b2 : (sq != 0) = false := by simp; exact z2
      have hh : headB ⟨g, nx, fl, sn, sq, L⟩ = true := hd.2 ⟨h0, h1, h2, h3, h4, h5, h6, h7, h8, by omega, by omega⟩
      by_cases n1 : 1 ≤ n
      rotate_left
      · rw [show mvB ⟨g, nx, fl, sn, sq, L⟩ = false from by unfold mvB listB; simp only; rw [hn, if_neg (by omega)]; simp]
        exact rmv_no12A g nx fl sn sq a n cap w h0 h1 h2 h3 h4 h5 h6 h7 h8 h9 b1 b2 b3 (by omega)
      by_cases n2 : n ≤ 256
      rotate_left
      · rw [show mvB ⟨g, nx, fl, sn, sq, L⟩ = false from by unfold mvB listB; simp only; rw [hn, if_neg (by omega)]; simp]
        exact rmv_no13A g nx fl sn sq a n cap w h0 h1 h2 h3 h4 h5 h6 h7 h8 h9 b1 b2 b3 (by omega) (by omega)
      rw [show mvB ⟨g, nx, fl, sn, sq, L⟩ = segsB nx 0 (fl + 1) L from by unfold mvB listB; simp only; rw [hh, hn, if_pos ⟨n1, n2⟩]; simp]
      exact rmv_loopA g nx fl sn sq a n cap w L h0 h1 h2 h3 h4 h5 h6 h7 h8 h9 b1 b2 b3 n1 n2 hn hS
    · rw [bad (fun h => by rw [hd] at h; omega)]
      exact rmv_no10 g nx fl sn sq a n cap w h0 h1 h2 h3 h4 h5 h6 h7 h8 h9 b1 (by simp; exact z2)
  · have b1 : (sn == 0) = false := by simp; exact z1
    have b2 : (sn != 0) = true := by simp; exact z1
    by_cases z2 : sq = 0
    · rw [bad (fun h => by rw [hd] at h; omega)]
      exact rmv_no11 g nx fl sn sq a n cap w h0 h1 h2 h3 h4 h5 h6 h7 h8 h9 b1 b2 (by simp; exact z2)
    · have b3 : (sq == 0) = false := by simp; exact z2
      have hh : headB ⟨g, nx, fl, sn, sq, L⟩ = true := hd.2 ⟨h0, h1, h2, h3, h4, h5, h6, h7, h8, by omega, by omega⟩
      by_cases n1 : 1 ≤ n
      rotate_left
      · rw [show mvB ⟨g, nx, fl, sn, sq, L⟩ = false from by unfold mvB listB; simp only; rw [hn, if_neg (by omega)]; simp]
        exact rmv_no12B g nx fl sn sq a n cap w h0 h1 h2 h3 h4 h5 h6 h7 h8 h9 b1 b2 b3 (by omega)
      by_cases n2 : n ≤ 256
      rotate_left
      · rw [show mvB ⟨g, nx, fl, sn, sq, L⟩ = false from by unfold mvB listB; simp only; rw [hn, if_neg (by omega)]; simp]
        exact rmv_no13B g nx fl sn sq a n cap w h0 h1 h2 h3 h4 h5 h6 h7 h8 h9 b1 b2 b3 (by omega) (by omega)
      rw [show mvB ⟨g, nx, fl, sn, sq, L⟩ = segsB nx 0 (fl + 1) L from by unfold mvB listB; simp only; rw [hh, hn, if_pos ⟨n1, n2⟩]; simp]
      exact rmv_loopB g nx fl sn sq a n cap w L h0 h1 h2 h3 h4 h5 h6 h7 h8 h9 b1 b2 b3 n1 n2 hn hS
set_option maxRecDepth 20000 in
set_option maxHeartbeats 4000000 in
theorem rmenc_any (m : Mf) (n : Nat) (a : Option Addr) (cap : Nat) (w : World) (hn : m.segs.length = n) (hS : Sms w a m.segs) (hl : n ≤ maxLen) (hD : True) :
    Calls Tryd.prog 8 #[MfV m (.slice a n cap)] w fun e w' => ∃ v, e = .returned (.tuple #[v, .int .i64 (mfE m : Nat)]) ∧ Own w' w.heap.size v (mfL m) ∧ Below w.heap.size w w' := by
  have HS : Hid (m.segs.length = n ∧ Sms w a m.segs ∧ n ≤ maxLen ∧ True) := ⟨hn, hS, hl, trivial⟩
  have HM : Hid (MfAt (w.alloc (.cells (mfA m (.slice a n cap)) 24)) w.heap.size m (.slice a n cap)) := MfAt.new w m _
  have HB0 : Hid (Below w.heap.size w (w.alloc (.cells (mfA m (.slice a n cap)) 24))) := (Below.refl _ _).alloc (Nat.le_refl _) _
  by_cases hV : mvB m = true
  · have HR : Hid (mfE m = 0 ∧ mfL m = frameL 4 m.gen.toNat (encAll (mfN m))) := ⟨if_pos hV, if_pos hV⟩
    have HV : Hid (mvB m = true) := hV
    have HSG : Hid (_) := mv_segs hV
    obtain ⟨hp1, hp2, hp3, hp4⟩ := mv_parts hV
    obtain ⟨q1, q2, q3, q4, q5, q6, q7, q8, q9, q10, _⟩ := headB_facts hp1
    have HBD : Hid ((encAll (mfN m)).length ≤ 4374) := mf_body hV
    have HML : Hid ((mfN m).length = 4 + 4 * n) := by show _ = _; rw [mfN_length, hn]
    have hn256 : n ≤ 256 := by omega
    have hnI : (n : Int) ≤ 256 := by omega
    obtain ⟨i0, hi, hz0, hz1, hz2⟩ := info_parts Tryd.info64
    obtain ⟨g, nx, fl, sn, sq, L⟩ := m
    simp only at HS HM HB0 HR HV HSG HBD HML q1 q2 q3 q4 q5 q6 q7 q8 q9 q10
    obtain ⟨g, rfl⟩ : ∃ k : Nat, g = k := ⟨g.toNat, by omega⟩
    obtain ⟨nx, rfl⟩ : ∃ k : Nat, nx = k := ⟨nx.toNat, by omega⟩
    obtain ⟨fl, rfl⟩ : ∃ k : Nat, fl = k := ⟨fl.toNat, by omega⟩
    obtain ⟨sn, rfl⟩ : ∃ k : Nat, sn = k := ⟨sn.toNat, by omega⟩
    obtain ⟨sq, rfl⟩ : ∃ k : Nat, sq = k := ⟨sq.toNat, by omega⟩
    have HN : Hid (mfN ⟨g, nx, fl, sn, sq, L⟩ = [nx, fl, sn, sq] ++ smN L) := rfl
    have HG : Hid (g ≤ 1099511627776) := by show _ ≤ _; omega
    have b1 : (nx : Int) ≤ 1000000 := by omega
    have b2 : (fl : Int) ≤ 1099511627776 := by omega
    have b3 : (sn : Int) ≤ 1000000 := by omega
    have b4 : (sq : Int) ≤ 1099511627776 := by omega
    have HNN : Hid (nx < 18446744073709551616 ∧ fl < 18446744073709551616 ∧ sn < 18446744073709551616 ∧ sq < 18446744073709551616) := ⟨by omega, by omega, by omega, by omega⟩
    clear hn hS hl hD hV hp1 hp2 hp3 hp4 q1 q2 q3 q4 q5 q6 q7 q8 q9 q10
    go_enter Tryd.func8, Tryd.ntmps8
    go_wp2_with (first
      | ((with_reducible refine frm_load 24 ?_); refine wpList_load_mf rfl _ rfl HM.out rfl ?_)
      | (go_at_call 18; refine (rmvalid_any ⟨g, nx, fl, sn, sq, L⟩ n a cap _ HS.out.1 (HS.out.2.1.keep HB0.out) HS.out.2.2.1).mono ?_; rw [HV.out]; rintro _ w1 ⟨rfl, hb1⟩; have HM1 : Hid (MfAt w1 w.heap.size ⟨g, nx, fl, sn, sq, L⟩ (.slice a n cap)) := HM.out.after hb1; have HB1 : Hid (Below w.heap.size w w1) := below_next HB0.out hb1; obtain ⟨c0, c1, c2, c3, c4, c5⟩ := HM1.out.cells; have hlt1 : w.heap.size < w1.heap.size := HM1.out.lt; clear hb1))
    obtain ⟨W0, hW0⟩ : ∃ W0, w1.alloc (.cells #[.int .u64 (nx : Int), .int .u64 (fl : Int), .int .u64 (sn : Int), .int .u64 (sq : Int)] 47) = W0 := ⟨_, rfl⟩
    have HO0 : Hid (Own64 W0 w.heap.size (.slice (some ⟨w1.heap.size, 0, none⟩) 4 4) [nx, fl, sn, sq]) := by
      rw [← hW0]
      have h := lit64_4 w1 nx fl sn sq HNN.out.1 HNN.out.2.1 HNN.out.2.2.1 HNN.out.2.2.2
      exact ⟨h.1, World.ownsRow.mono h.2 (Nat.le_of_lt hlt1)⟩
    have HW0 : Hid (Below w.heap.size w W0 ∧ MfAt W0 w.heap.size ⟨g, nx, fl, sn, sq, L⟩ (.slice a n cap)) := by
      rw [← hW0]; exact ⟨HB1.out.alloc (Nat.le_of_lt hlt1) _, HM1.out.after ((Below.refl _ _).alloc (Nat.le_refl _) _)⟩
    rw [hW0]
    clear hW0 c0 c1 c2 c3 c4 c5 hlt1
    go_loopw [4, 26] (fun vu vi wr => ∃ (v0 : Value) (k : Nat), v0 = vu ∧ k ≤ n ∧ vi = .int .i64 k ∧ Own64 wr w.heap.size v0 ([nx, fl, sn, sq] ++ smN (L.take k)) ∧ MfAt wr w.heap.size ⟨g, nx, fl, sn, sq, L⟩ (.slice a n cap) ∧ Below w.heap.size w wr) (fun _ vi _ => n - (intOf vi).toNat)
    case atStart => exact ⟨_, 0, rfl, Nat.zero_le _, rfl, by simpa [smN] using HO0.out, HW0.out.2, HW0.out.1⟩
    case round =>
      obtain ⟨v0, k, rfl, hk, rfl, hU, hmr, hbr⟩ := hrel
      have HU : Hid (Own64 wr w.heap.size v0 ([nx, fl, sn, sq] ++ smN (L.take k))) := hU
      have HMR : Hid (MfAt wr w.heap.size ⟨g, nx, fl, sn, sq, L⟩ (.slice a n cap)) := hmr
      have hltr : w.heap.size < wr.heap.size := hmr.lt
      have k5 : wr.cell? ⟨w.heap.size, 5, none⟩ = some (.slice a n cap) := hmr.cell 5 _ rfl
      have hUl : ([nx, fl, sn, sq] ++ smN (L.take k)).length = 4 + 4 * k := by
        rw [List.length_append, smN_length, List.length_take, HS.out.1, Nat.min_eq_left hk]; rfl
      have HUL : Hid (([nx, fl, sn, sq] ++ smN (L.take k)).length = 4 + 4 * k) := hUl
      by_cases hkn : k < n
      · obtain ⟨⟨p, q, c, f⟩, hp⟩ := sm_get (L := L) (k := k) (by rw [HS.out.1]; exact hkn)
        obtain ⟨s1, s2, s3, s4, s5, s6, s7, s8⟩ := HSG.out _ (List.mem_of_getElem? hp)
        simp only at s1 s2 s3 s4 s5 s6 s7 s8
        obtain ⟨p, rfl⟩ : ∃ k : Nat, p = k := ⟨p.toNat, by omega⟩
        obtain ⟨q, rfl⟩ : ∃ k : Nat, q = k := ⟨q.toNat, by omega⟩
        obtain ⟨c, rfl⟩ : ∃ k : Nat, c = k := ⟨c.toNat, by omega⟩
        obtain ⟨f, rfl⟩ : ∃ k : Nat, f = k := ⟨f.toNat, by omega⟩
        have hmk : Sms wr a L := HS.out.2.1.keep hbr
        obtain ⟨b, off, hab, hlt, c0, c1, c2, c3⟩ := hmk.cells k _ hp
        subst hab
        simp only at c0 c1 c2 c3
        have HTK : Hid ([nx, fl, sn, sq] ++ smN (L.take (k + 1)) = ([nx, fl, sn, sq] ++ smN (L.take k)) ++ [p, q, c, f]) := by
          show _ = _
          rw [sm_take L k _ hp, smN_append]
          simp [smN]
        have hkI : (k : Int) < (n : Int) := by omega
        have HPN : Hid (p < 18446744073709551616 ∧ q < 18446744073709551616 ∧ c < 18446744073709551616 ∧ f < 18446744073709551616) := ⟨by omega, by omega, by omega, by omega⟩
        have HO : Hid (((wr.alloc (.cells #[.int .i64 (p : Int), .int .i64 (q : Int), .int .i64 (c : Int), .int .i64 (f : Int)] 43)).alloc (.cells #[.int .u64 (p : Int), .int .u64 (q : Int), .int .u64 (c : Int), .int .u64 (f : Int)] 47)).ownsRow w.heap.size 47 1 v0 (4 + 4 * k) (B64 ([nx, fl, sn, sq] ++ smN (L.take k)))) := by
          have h := World.ownsRow.alloc (World.ownsRow.alloc hU.2 (.cells #[.int .i64 (p : Int), .int .i64 (q : Int), .int .i64 (c : Int), .int .i64 (f : Int)] 43)) (.cells #[.int .u64 (p : Int), .int .u64 (q : Int), .int .u64 (c : Int), .int .u64 (f : Int)] 47)
          rw [hUl] at h
          exact h
        have HB2 : Hid (Below wr.heap.size wr ((wr.alloc (.cells #[.int .i64 (p : Int), .int .i64 (q : Int), .int .i64 (c : Int), .int .i64 (f : Int)] 43)).alloc (.cells #[.int .u64 (p : Int), .int .u64 (q : Int), .int .u64 (c : Int), .int .u64 (f : Int)] 47))) := ((Below.refl _ _).alloc (Nat.le_refl _) _).alloc (by simp) _
        have HBR : Hid (Below w.heap.size w wr) := hbr
        clear hp hU hmr hUl hmk s1 s3 s5 s7 hbr
        go_wp2_with (at_builtin; refine wpList_append_own _ rfl _ _ 48 rfl w.heap.size 47 i0 (.int .u64 0) 1 8 Tryd.underlying48 hi hz0 hz1 hz2 rfl (by decide) _ _ _ rfl HO.out ⟨wr.heap.size + 1, 0, none⟩ 4 4 [.int .u64 (p : Int), .int .u64 (q : Int), .int .u64 (c : Int), .int .u64 (f : Int)] rfl rfl (by have h := cell_new4 (wr.alloc (.cells #[.int .i64 (p : Int), .int .i64 (q : Int), .int .i64 (c : Int), .int .i64 (f : Int)] 43)) (.int .u64 (p : Int)) (.int .u64 (q : Int)) (.int .u64 (c : Int)) (.int .u64 (f : Int)) 47; simpa using h) (one_new4 _ _ _ _) (by unfold maxLen; omega) (by omega) (by simp; omega) ?_; intro v4 w4 ho4 hg4 _; have HB4 : Hid (Below w.heap.size w w4) := grown_row (HBR.out.trans (HB2.out.mono (Nat.le_of_lt hltr))) HO.out (by simp; omega) hg4; have HM4 : Hid (MfAt w4 w.heap.size ⟨g, nx, fl, sn, sq, L⟩ (.slice (some ⟨b, off, none⟩) n cap)) := grown_boxM HO.out hg4 (HMR.out.after HB2.out) (by decide); have HO4 : Hid (Own64 w4 w.heap.size v4 (([nx, fl, sn, sq] ++ smN (L.take k)) ++ [p, q, c, f])) := Own64.snoc4 HU.out.1 HPN.out.1 HPN.out.2.1 HPN.out.2.2.1 HPN.out.2.2.2 (by rw [HUL.out]; exact ho4); clear hg4 ho4)
        go_roundw
        case rel => exact ⟨v4, k + 1, rfl, by omega, by go_num, by rw [HTK.out]; exact HO4.out, HM4.out, HB4.out⟩
        case measure => simp [intOf]; omega
      · obtain rfl : n = k := by omega
        have HUE : Hid ([nx, fl, sn, sq] ++ smN (L.take n) = mfN ⟨g, nx, fl, sn, sq, L⟩) := by show _ = _; rw [List.take_of_length_le (by rw [HS.out.1]; exact Nat.le_refl _), HN.out]
        obtain ⟨ag, cg, hv0, hnum⟩ := hU.slice
        rw [hUl] at hv0
        subst hv0
        rw [HUE.out] at hnum
        have HNU : Hid (Nums wr ag (mfN ⟨g, nx, fl, sn, sq, L⟩)) := hnum
        have HBR : Hid (Below w.heap.size w wr) := hbr
        obtain ⟨N, hN⟩ : ∃ N, 4 + 4 * n = N := ⟨_, rfl⟩
        have HNE : Hid ((mfN ⟨g, nx, fl, sn, sq, L⟩).length = N ∧ N ≤ 1048576) := ⟨by rw [HML.out, hN], by omega⟩
        obtain ⟨BL, hBL⟩ : ∃ BL, (encAll (mfN ⟨g, nx, fl, sn, sq, L⟩)).length = BL := ⟨_, rfl⟩
        have HBL : Hid ((encAll (mfN ⟨g, nx, fl, sn, sq, L⟩)).length = BL ∧ BL ≤ 4374) := ⟨hBL, by rw [← hBL]; exact HBD.out⟩
        have HEF : Hid (encE (4 : Int) (g : Int) BL = 0 ∧ encL (4 : Int) (g : Int) (encAll (mfN ⟨g, nx, fl, sn, sq, L⟩)) = frameL 4 g (encAll (mfN ⟨g, nx, fl, sn, sq, L⟩))) := by
          have h := enc_frame4 4 g BL (by omega) (by omega) HG.out (by have := HBL.out.2; omega)
          refine ⟨h, ?_⟩
          unfold encL
          rw [hBL, show encE (4 : Int) (g : Int) BL = 0 from h, if_pos rfl]
          rfl
        have k0 : wr.cell? ⟨w.heap.size, 0, none⟩ = some (.int .i64 (g : Int)) := hmr.cell 0 _ rfl
        rw [hN]
        clear hnum hU hUl hmr hbr hN hBL HUE HU HUL HMR b1 b2 b3 b4
        go_wp2
        go_region_held3 (fun y => y.cell? ⟨w.heap.size, 0, none⟩ = some (.int .i64 (g : Int))) (go_keep) (first
          | (go_at_call 20; refine (rencAll_any (mfN ⟨g, nx, fl, sn, sq, L⟩) N ag cg _ HNE.out.1 (HNU.out.keep (Below.refl _ _).drew) HNE.out.2).mono ?_; rintro _ w5 ⟨v5, rfl, ho5, hb5⟩; have HB5 : Hid (Below w.heap.size w w5) := below_next HBR.out ((Below.refl _ _).drew.trans hb5); obtain ⟨a5, c5, hv5, hc5, hn5, hy5, hz5⟩ := ho5.shape; rw [HBL.out.1] at hv5; subst hv5; have HY5 : Hid (Bytes w5 a5 (encAll (mfN ⟨g, nx, fl, sn, sq, L⟩))) := hy5; have HZ5 : Hid ((a5 = none → c5 = 0) ∧ ∀ x, a5 = some x → ∃ b off, x = ⟨b, off, none⟩) := own_addr hz5; have HL5 : Hid (w.heap.size < w5.heap.size) := Nat.lt_of_lt_of_le hltr hb5.size; have k5 : w5.cell? ⟨w.heap.size, 0, none⟩ = some (.int .i64 (g : Int)) := (hb5.cell (p := ⟨w.heap.size, 0, none⟩) hltr).trans k0; clear ho5 hb5 hy5 hz5 hc5 hn5)
          | (go_at_call 19; refine (rfenc_any 4 g (encAll (mfN ⟨g, nx, fl, sn, sq, L⟩)) BL a5 c5 _ HBL.out.1 HY5.out HZ5.out.1 (by have := HBL.out.2; omega)).mono ?_; rw [HEF.out.1, HEF.out.2]; rintro _ w6 ⟨v6, rfl, ho6, hb6⟩; have HB6 : Hid (Below w.heap.size w w6) := below_next HB5.out hb6; have HO6 : Hid (Own w6 w.heap.size v6 (frameL 4 g (encAll (mfN ⟨g, nx, fl, sn, sq, L⟩)))) := ⟨ho6.1, World.ownsRow.mono ho6.2 HB5.out.size⟩; have k6 : w6.cell? ⟨w.heap.size, 0, none⟩ = some (.int .i64 (g : Int)) := (hb6.cell (p := ⟨w.heap.size, 0, none⟩) HL5.out).trans k5; clear ho6 hb6))
        go_wp2
        go_ret2
        exact ⟨v6, by rw [HR.out.1]; rfl, by rw [HR.out.2]; exact HO6.out, HB6.out⟩
  · have HR : Hid (mfE m = 80 ∧ mfL m = []) := ⟨if_neg hV, if_neg hV⟩
    have HV : Hid (mvB m = false) := by show _ = _; simpa using hV
    clear hn hS hl hD hV
    go_enter Tryd.func8, Tryd.ntmps8
    go_wp2_with (first
      | ((with_reducible refine frm_load 24 ?_); refine wpList_load_mf rfl _ rfl HM.out rfl ?_)
      | (go_at_call 18; refine (rmvalid_any m n a cap _ HS.out.1 (HS.out.2.1.keep HB0.out) HS.out.2.2.1).mono ?_; rw [HV.out]; rintro _ w1 ⟨rfl, hb1⟩; have HB1 : Hid (Below w.heap.size w w1) := below_next HB0.out hb1; clear hb1))
    go_ret2
    exact ⟨_, by rw [HR.out.1]; rfl, by rw [HR.out.2]; exact ownNilM _ _, HB1.out⟩
end Go.Proofs.YtoneaannbmkeiaaDoor
namespace Go.Proofs.YtoneaannbmkeiaaDoor
open Go.ChangeShapes Go.WideShapes Go.ChangeAt Go.RowKit
set_option linter.unusedVariables false
theorem row_blkM {w : World} {base : Nat} {e : TypeId} {size : Nat} {v : Value} {n : Nat} {xs : List Value} (h : w.ownsRow base e size v n xs) {g : Nat} (hg : v.ownBlock = some g) : base ≤ g ∧ ∃ c, w.heap[g]? = some (.cells c e) := by
  rcases h.2 with ⟨rfl, _⟩ | ⟨g2, cap, cur, rfl, h4, h5, h6⟩
  · simp [Value.ownBlock] at hg
  · have : g2 = g := by simpa [Value.ownBlock] using hg
    subst this
    exact ⟨h4, _, h5⟩
theorem MfAt.froz {w : World} {b : Nat} {s : Mf} {v : Value} (h : MfAt w b s v) (j : Nat) : w.frozen? ⟨b, j, none⟩ = false := frozen_of_row _ _ j _ _ h
theorem OwnSm.monoM {w : World} {b b' : Nat} {v : Value} {L : List Sm} (h : OwnSm w b v L) (hb : b' ≤ b) : OwnSm w b' v L := World.ownsRow.mono h hb
/-- while a manifest is copied -/
structure Cpm (w wr : World) (s : Mf) (v v0 : Value) (L : List Sm) : Prop where
  src : MfAt wr w.heap.size s v
  res : MfAt wr (w.heap.size + 1) zeroM (.slice none 0 0)
  tmp : MfAt wr (w.heap.size + 1 + 1) s v0
  row : OwnSm wr (w.heap.size + 3) v0 L
  bel : Below w.heap.size w wr
theorem MfAt.set5M {w : World} {b : Nat} {s : Mf} {v : Value} (h : MfAt w b s v) (v2 : Value) : MfAt (w.setCell ⟨b, 5, none⟩ v2) b s v2 := by
  unfold MfAt at h ⊢
  rw [heap_setCell_same w b 5 _ _ _ h]
  rfl
theorem Cpm.grow {w wr w4 : World} {s : Mf} {v v0 : Value} {L : List Sm} {p : Sm} {g c : Nat} (h : Cpm w wr s v v0 L) (ho : w4.ownsRow (w.heap.size + 3) 43 4 (.slice (some ⟨g, 0, none⟩) (L.length + 1) c) (L.length + 1) (sfl L ++ [.int .i64 p.num, .int .i64 p.first, .int .i64 p.count, .int .i64 p.foot]))
    (hg : (wr.drew.alloc (.cells #[.int .i64 p.num, .int .i64 p.first, .int .i64 p.count, .int .i64 p.foot] 43)).grownBy w4 v0.ownBlock) : Cpm w (w4.setCell ⟨w.heap.size + 1 + 1, 5, none⟩ (.slice (some ⟨g, 0, none⟩) (L.length + 1) c)) s v (.slice (some ⟨g, 0, none⟩) (L.length + 1) c) (L ++ [p]) ∧ MfAt w4 (w.heap.size + 1 + 1) s v0 := by
  have hB : Below wr.heap.size wr (wr.drew.alloc (.cells #[.int .i64 p.num, .int .i64 p.first, .int .i64 p.count, .int .i64 p.foot] 43)) := (Below.refl _ _).drew.alloc (Nat.le_refl _) _
  have hlt := h.tmp.lt
  have key : ∀ k, k < w.heap.size + 3 → w4.heap[k]? = wr.heap[k]? := by
    intro k hk
    have h1 : w4.heap[k]? = (wr.drew.alloc (.cells #[.int .i64 p.num, .int .i64 p.first, .int .i64 p.count, .int .i64 p.foot] 43)).heap[k]? := hg.block k (by have := hB.size; omega) (fun hv => by
      have := (row_blkM (OwnSm.keep h.row hB) hv.symm).1; omega)
    exact h1.trans (hB.block k (by omega))
  have t4 : MfAt w4 (w.heap.size + 1 + 1) s v0 := (key _ (by omega)).trans h.tmp
  refine ⟨⟨?_, ?_, t4.set5M _, ?_, ?_⟩, t4⟩
  · exact (heap_setCell_other w4 ⟨w.heap.size + 1 + 1, 5, none⟩ w.heap.size _ (by show w.heap.size ≠ w.heap.size + 1 + 1; omega)).trans ((key _ (by omega)).trans h.src)
  · exact (heap_setCell_other w4 ⟨w.heap.size + 1 + 1, 5, none⟩ (w.heap.size + 1) _ (by show w.heap.size + 1 ≠ w.heap.size + 1 + 1; omega)).trans ((key _ (by omega)).trans h.res)
  · exact OwnSm.otherM (OwnSm.snoc rfl ho) (k := w.heap.size + 1 + 1) (by omega) (fun j hj => heap_setCell_other w4 ⟨w.heap.size + 1 + 1, 5, none⟩ j _ hj)
  · have hb1 : Below w.heap.size w (wr.drew.alloc (.cells #[.int .i64 p.num, .int .i64 p.first, .int .i64 p.count, .int .i64 p.foot] 43)) := h.bel.drew.alloc h.bel.size _
    have hb2 : Below w.heap.size w w4 := hb1.grown hg (by have := hB.size; have := h.bel.size; omega) (fun k hk => by have := (row_blkM (OwnSm.keep h.row hB) hk).1; omega)
    exact hb2.setCell (p := ⟨w.heap.size + 1 + 1, 5, none⟩) (by show w.heap.size ≤ w.heap.size + 1 + 1; omega) _
theorem three_mf (w : World) (s : Mf) (v : Value) : ∃ W, ((w.alloc (.cells (mfA s v) 24)).alloc (.cells (mfA zeroM (.slice none 0 0)) 24)).alloc (.cells (mfA zeroM (.slice none 0 0)) 24) = W ∧ MfAt W w.heap.size s v ∧ MfAt W (w.heap.size + 1) zeroM (.slice none 0 0) ∧ MfAt W (w.heap.size + 1 + 1) zeroM (.slice none 0 0) ∧ Below w.heap.size w W ∧ W.heap.size = w.heap.size + 3 := by
  refine ⟨_, rfl, ?_, ?_, ?_, (((Below.refl _ _).alloc (Nat.le_refl _) _).alloc (by simp) _).alloc (by simp; omega) _, by simp⟩
  · exact ((MfAt.new w s v).after ((Below.refl _ _).alloc (Nat.le_refl _) _)).after ((Below.refl _ _).alloc (Nat.le_refl _) _)
  · have := (MfAt.new (w.alloc (.cells (mfA s v) 24)) zeroM (.slice none 0 0)).after ((Below.refl _ _).alloc (Nat.le_refl _) (.cells (mfA zeroM (.slice none 0 0)) 24))
    simpa using this
  · have := MfAt.new ((w.alloc (.cells (mfA s v) 24)).alloc (.cells (mfA zeroM (.slice none 0 0)) 24)) zeroM (.slice none 0 0)
    simpa using this
theorem Cpm.start {w x1 : World} {s : Mf} {v : Value} (h1 : MfAt x1 w.heap.size s v) (h2 : MfAt x1 (w.heap.size + 1) zeroM (.slice none 0 0)) (h3 : MfAt x1 (w.heap.size + 1 + 1) s v) (hb : Below w.heap.size w x1) (hs : x1.heap.size = w.heap.size + 3) :
    Cpm w ((x1.alloc (.cells #[] 43)).setCell ⟨w.heap.size + 1 + 1, 5, none⟩ (.slice (some ⟨x1.heap.size, 0, none⟩) 0 0)) s v (.slice (some ⟨x1.heap.size, 0, none⟩) 0 0) [] ∧ (x1.alloc (.cells #[] 43)).frozen? ⟨w.heap.size + 1 + 1, 5, none⟩ = false ∧ (x1.alloc (.cells #[] 43)).cell? ⟨w.heap.size + 1 + 1, 5, none⟩ = some v := by
  have hB : Below x1.heap.size x1 (x1.alloc (.cells #[] 43)) := (Below.refl _ _).alloc (Nat.le_refl _) _
  have k3 := h3.after hB
  refine ⟨⟨?_, ?_, k3.set5M _, ?_, ?_⟩, k3.froz 5, k3.cell 5 _ rfl⟩
  · exact (heap_setCell_other _ ⟨w.heap.size + 1 + 1, 5, none⟩ w.heap.size _ (by show w.heap.size ≠ w.heap.size + 1 + 1; omega)).trans (h1.after hB)
  · exact (heap_setCell_other _ ⟨w.heap.size + 1 + 1, 5, none⟩ (w.heap.size + 1) _ (by show w.heap.size + 1 ≠ w.heap.size + 1 + 1; omega)).trans (h2.after hB)
  · exact (OwnSm.otherM (OwnSm.lit x1) (k := w.heap.size + 1 + 1) (by omega) (fun j hj => heap_setCell_other _ ⟨w.heap.size + 1 + 1, 5, none⟩ j _ hj)).monoM (by omega)
  · exact (hb.alloc hb.size _).setCell (p := ⟨w.heap.size + 1 + 1, 5, none⟩) (by show w.heap.size ≤ w.heap.size + 1 + 1; omega) _
set_option maxRecDepth 20000 in
set_option maxHeartbeats 4000000 in
theorem mcopy_any (s : Mf) (a : Option Addr) (n cap : Nat) (w : World) (hn : s.segs.length = n) (hl : Sms w a s.segs) (hm : n * 32 ≤ 140737488351232) :
    Calls Tryd.prog 7 #[MfV s (.slice a n cap)] w fun r w' => ∃ v', r = .returned (MfV s v') ∧ OwnSm w' w.heap.size v' s.segs ∧ Below w.heap.size w w' := by
  obtain ⟨i0, hi, hz0, hz1, hz2⟩ := info_parts Tryd.infoSm
  have HN : Hid (s.segs.length = n) := hn
  have HL : Hid (Sms w a s.segs) := hl
  obtain ⟨W, hW, t1, t2, t3, t4, t5⟩ := three_mf w s (.slice a n cap)
  have hW2 : ((w.alloc (.cells (mfA s (.slice a n cap)) 24)).alloc (.cells #[.int .i64 0, .int .i64 0, .int .i64 0, .int .i64 0, .int .i64 0, .slice none 0 0] 24)).alloc (.cells #[.int .i64 0, .int .i64 0, .int .i64 0, .int .i64 0, .int .i64 0, .slice none 0 0] 24) = W := hW
  have HS0 : Hid (MfAt ((w.alloc (.cells (mfA s (.slice a n cap)) 24)).alloc (.cells (mfA zeroM (.slice none 0 0)) 24)) w.heap.size s (.slice a n cap)) := (MfAt.new w s _).after ((Below.refl _ _).alloc (Nat.le_refl _) _)
  have H1 : Hid (MfAt W w.heap.size s (.slice a n cap)) := t1
  have H2 : Hid (MfAt W (w.heap.size + 1) zeroM (.slice none 0 0)) := t2
  have H3 : Hid (MfAt W (w.heap.size + 1 + 1) zeroM (.slice none 0 0)) := t3
  have H4 : Hid (Below w.heap.size w W) := t4
  have H5 : Hid (W.heap.size = w.heap.size + 3) := t5
  clear hn hl hW t1 t2 t3 t4 t5
  go_enter Tryd.func7, Tryd.ntmps7
  go_wp2_with (first
    | ((with_reducible refine frm_load 24 ?_); refine wpList_load_mf rfl _ rfl HS0.out rfl ?_)
    | ((with_reducible refine frm_store 24 ?_); refine wpList_store_mf (m := zeroM) (m2 := s) rfl _ _ rfl rfl H3.out rfl rfl ?_; intro x1 z1 z2 z3 z4; obtain ⟨hc0, f5, c5⟩ := Cpm.start (w := w) (s := s) ((z3 _ (by omega)).trans H1.out) ((z3 _ (by omega)).trans H2.out) z1 (z2 _ _ H4.out (by omega)) (z4.trans H5.out); have HC0 : Hid (Cpm w ((x1.alloc (.cells #[] 43)).setCell ⟨w.heap.size + 1 + 1, 5, none⟩ (.slice (some ⟨x1.heap.size, 0, none⟩) 0 0)) s (.slice a n cap) (.slice (some ⟨x1.heap.size, 0, none⟩) 0 0) []) := hc0; have s5 := hc0.src.cell 5 (.slice a n cap) rfl; clear z1 z2 z3 z4 hc0))
  go_loopw [11] (fun vi wr => ∃ (k gc : Nat) (ga : Option Addr), k ≤ n ∧ vi = .int .i64 k ∧ Hid (Cpm w wr s (.slice a n cap) (.slice ga k gc) (s.segs.take k))) (fun vi _ => n - (intOf vi).toNat)
  case atStart => exact ⟨0, 0, _, Nat.zero_le _, rfl, by rw [List.take_zero]; exact HC0.out⟩
  case round =>
    clear HC0 s5 f5 c5 hW2 HS0 H1 H2 H3 H4 H5
    obtain ⟨k, gc, ga, hk, rfl, HI⟩ := hrel
    by_cases hkn : k < n
    · obtain ⟨p, hp⟩ := sm_get (L := s.segs) (k := k) (by rw [HN.out]; exact hkn)
      obtain ⟨b, off, rfl, hlt, q0, q1, q2, q3⟩ := (HL.out.keep HI.out.bel).cells k p hp
      have HTK : Hid (s.segs.take (k + 1) = s.segs.take k ++ [p]) := sm_take _ _ _ hp
      have HTL : Hid ((s.segs.take k).length = k) := by show _ = _; rw [List.length_take, HN.out]; omega
      have hT := HI.out.tmp
      have c5 : wr.cell? ⟨w.heap.size + 1 + 1, 5, none⟩ = some (.slice ga k gc) := hT.cell 5 _ rfl
      have c5d : wr.drew.cell? ⟨w.heap.size + 1 + 1, 5, none⟩ = some (.slice ga k gc) := c5
      have c5a : (wr.drew.alloc (.cells #[.int .i64 p.num, .int .i64 p.first, .int .i64 p.count, .int .i64 p.foot] 43)).cell? ⟨w.heap.size + 1 + 1, 5, none⟩ = some (.slice ga k gc) := (hT.after ((Below.refl wr.heap.size wr).drew.alloc (Nat.le_refl _) (.cells #[.int .i64 p.num, .int .i64 p.first, .int .i64 p.count, .int .i64 p.foot] 43))).cell 5 _ rfl
      have c5b : (wr.alloc (.cells #[.int .i64 p.num, .int .i64 p.first, .int .i64 p.count, .int .i64 p.foot] 43)).cell? ⟨w.heap.size + 1 + 1, 5, none⟩ = some (.slice ga k gc) := c5a
      have s5 : wr.cell? ⟨w.heap.size, 5, none⟩ = some (.slice (some ⟨b, off, none⟩) n cap) := HI.out.src.cell 5 _ rfl
      have HO5 : Hid ((wr.drew.alloc (.cells #[.int .i64 p.num, .int .i64 p.first, .int .i64 p.count, .int .i64 p.foot] 43)).ownsRow (w.heap.size + 3) 43 4 (.slice ga k gc) k (sfl (s.segs.take k))) := by have h := OwnSm.keep HI.out.row ((Below.refl wr.heap.size wr).drew.alloc (Nat.le_refl _) (.cells #[.int .i64 p.num, .int .i64 p.first, .int .i64 p.count, .int .i64 p.foot] 43)); unfold OwnSm at h; rw [HTL.out] at h; exact h
      have HNW : Hid (∀ j u, [.int .i64 p.num, .int .i64 p.first, .int .i64 p.count, .int .i64 p.foot][j]? = some u → (wr.drew.alloc (.cells #[.int .i64 p.num, .int .i64 p.first, .int .i64 p.count, .int .i64 p.foot] 43)).cell? ((⟨wr.heap.size, 0, none⟩ : Addr).add j) = some u) := cell_newS wr.drew p
      have HBS : Hid (w.heap.size + 3 ≤ wr.heap.size) := hT.lt
      have hbI : ¬ w.heap.size + 1 + 1 = wr.heap.size := by have := HBS.out; omega
      have hbI2 : ¬ wr.heap.size = w.heap.size + 1 + 1 := by have := HBS.out; omega
      clear hp hT
      go_wp2
      go_region_law ((refine step_append_lies _ (by rfl) _ _ 22 (by rfl) (w.heap.size + 3) 43 i0 _ 4 32 Tryd.underlying22 hi hz0 hz1 hz2 rfl (by decide) (.slice ga k gc) k (sfl (s.segs.take k)) (by rfl) HO5.out ⟨wr.heap.size, 0, none⟩ 1 1 [.int .i64 p.num, .int .i64 p.first, .int .i64 p.count, .int .i64 p.foot] (by rfl) (by rfl) HNW.out (by intro u hu; simp only [List.mem_cons, List.not_mem_nil, or_false] at hu; rcases hu with rfl | rfl | rfl | rfl <;> rfl) (by omega) (by unfold maxLen; omega) (by omega) (by have := HBS.out; simp; omega) (wr.heap.size + 1) (by simp) ?_; intro g4 cap4 w4 ho4 hg4 hat4 hlt4; rw [show k + 1 = (s.segs.take k).length + 1 from (by rw [HTL.out])] at ho4; obtain ⟨hc4, ht4⟩ := HI.out.grow ho4 hg4; rw [HTL.out, ← HTK.out] at hc4; have d5 := ht4.cell 5 (.slice ga k gc) rfl; have d5f := ht4.froz 5; have HC4 : Hid (Cpm w (w4.setCell ⟨w.heap.size + 1 + 1, 5, none⟩ (.slice (some ⟨g4, 0, none⟩) (k + 1) cap4)) s (.slice (some ⟨b, off, none⟩) n cap) (.slice (some ⟨g4, 0, none⟩) (k + 1) cap4) (s.segs.take (k + 1))) := hc4; clear ho4 hg4 hat4 hlt4 hc4 ht4))
      all_goals go_wp2
      all_goals exact ⟨⟨k + 1, cap4, _, by omega, by go_num, HC4.out⟩, by simp [intOf]; omega⟩
    · obtain rfl : k = n := by omega
      have HCL : Hid (Cpm w wr s (.slice a k cap) (.slice ga k gc) s.segs) := by have h := HI.out; rw [List.take_of_length_le (by rw [HN.out]; exact Nat.le_refl _)] at h; exact h
      go_wp2_with (first
        | ((with_reducible refine frm_load 24 ?_); refine wpList_load_mf rfl _ rfl HCL.out.tmp rfl ?_)
        | ((with_reducible refine frm_store 24 ?_); refine wpList_store_mf (m := zeroM) (m2 := s) rfl _ _ rfl rfl HCL.out.res rfl rfl ?_; intro x8 z1 z2 z3 z4))
      exact bodyPost_ret (results_mf1 rfl _ _ _ rfl z1) rfl ⟨_, rfl, (OwnSm.otherM HCL.out.row (k := w.heap.size + 1) (by omega) z3).monoM (by omega), z2 _ _ HCL.out.bel (by omega)⟩
end Go.Proofs.YtoneaannbmkeiaaDoor
