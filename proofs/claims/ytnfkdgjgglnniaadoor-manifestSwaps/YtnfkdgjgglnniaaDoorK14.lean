/- Own texts, joined: Mf3, Rfw. -/
import Derived.Test.YtnfkdgjgglnniaaDoorK13
import Derived.Deep.Onto
import Derived.Deep.RegionHeld3
import Derived.Test.YtnfkdgjgglnniaaDoorK00
import Derived.RangeFuncNested
import Derived.RangeFuncBound
import Derived.RangeFuncCalls
import Derived.RangeFuncLeaves
import Derived.Shelf.Abstract
import Derived.OwnWalkIn
import Derived.TacticsInMore
import Derived.LoopNIn
import Derived.LoopIn
namespace Go.Proofs.YtnfkdgjgglnniaaDoor
open Go.ChangeShapes Go.WideShapes Go.ChangeAt Go.RowKit
set_option linter.unusedVariables false
theorem own_addr {a : Option Addr} {l : List Nat} {cap base N : Nat} (h : (a = none ∧ l = [] ∧ cap = 0) ∨ ∃ g, a = some ⟨g, 0, none⟩ ∧ base ≤ g ∧ g < N) : (a = none → cap = 0) ∧ ∀ x, a = some x → ∃ b off, x = ⟨b, off, none⟩ := by
  rcases h with ⟨rfl, _, h⟩ | ⟨g, rfl, _, _⟩
  · exact ⟨fun _ => h, fun x hx => by cases hx⟩
  · exact ⟨fun h => (by cases h), fun x hx => (by cases hx; exact ⟨g, 0, rfl⟩)⟩
theorem ownNilM (w : World) (base : Nat) : Own w base (.slice none 0 0) [] := ⟨by simp, World.ownsRow_nil ..⟩
set_option maxRecDepth 20000 in
set_option maxHeartbeats 4000000 in
theorem menc_any (m : Mf) (n : Nat) (a : Option Addr) (cap : Nat) (w : World) (hn : m.segs.length = n) (hS : Sms w a m.segs) (hl : n ≤ maxLen) (ht : Tab w) :
    Calls Tryd.prog 14 #[MfV m (.slice a n cap)] w fun e w' => ∃ v, e = .returned (.tuple #[v, .int .i64 (mfE m : Nat)]) ∧ Own w' w.heap.size v (mfL m) ∧ Below w.heap.size w w' := by
  have HS : Hid (m.segs.length = n ∧ Sms w a m.segs ∧ n ≤ maxLen ∧ Tab w) := ⟨hn, hS, hl, ht⟩
  have HM : Hid (MfAt (w.alloc (.cells (mfA m (.slice a n cap)) 24)) w.heap.size m (.slice a n cap)) := MfAt.new w m _
  have HB0 : Hid (Below w.heap.size w (w.alloc (.cells (mfA m (.slice a n cap)) 24))) := (Below.refl _ _).alloc (Nat.le_refl _) _
  by_cases hV : mvB m = true
  · have HR : Hid (mfE m = 0 ∧ mfL m = frameL 4 m.gen.toNat (encAll (mfN m))) := ⟨if_pos hV, if_pos hV⟩
    have HV : Hid (mvB m = true) := hV
    have HSG : Hid (_) := mv_segs hV
    obtain ⟨hp1, hp2, hp3, hp4⟩ := mv_parts hV
    obtain ⟨q1, q2, q3, q4, q5, q6, q7, q8, q9, q10, _⟩ := headB_facts hp1
    have HBD : Hid ((encAll (mfN m)).length ≤ 4374) := mf_body hV
    have HML : Hid ((mfN m).length = 4 + 4 * n) := by show _ = _; rw [mfN_length, hn]
    have hn256 : n ≤ 256 := by omega
    have hnI : (n : Int) ≤ 256 := by omega
    obtain ⟨i0, hi, hz0, hz1, hz2⟩ := info_parts Tryd.info64
    obtain ⟨g, nx, fl, sn, sq, L⟩ := m
    simp only at HS HM HB0 HR HV HSG HBD HML q1 q2 q3 q4 q5 q6 q7 q8 q9 q10
    obtain ⟨g, rfl⟩ : ∃ k : Nat, g = k := ⟨g.toNat, by omega⟩
    obtain ⟨nx, rfl⟩ : ∃ k : Nat, nx = k := ⟨nx.toNat, by omega⟩
    obtain ⟨fl, rfl⟩ : ∃ k : Nat, fl = k := ⟨fl.toNat, by omega⟩
    obtain ⟨sn, rfl⟩ : ∃ k : Nat, sn = k := ⟨sn.toNat, by omega⟩
    obtain ⟨sq, rfl⟩ : ∃ k : Nat, sq = k := ⟨sq.toNat, by omega⟩
    have HN : Hid (mfN ⟨g, nx, fl, sn, sq, L⟩ = [nx, fl, sn, sq] ++ smN L) := rfl
    have HG : Hid (g ≤ 1099511627776) := by show _ ≤ _; omega
    have b1 : (nx : Int) ≤ 1000000 := by omega
    have b2 : (fl : Int) ≤ 1099511627776 := by omega
    have b3 : (sn : Int) ≤ 1000000 := by omega
    have b4 : (sq : Int) ≤ 1099511627776 := by omega
    have HNN : Hid (nx < 18446744073709551616 ∧ fl < 18446744073709551616 ∧ sn < 18446744073709551616 ∧ sq < 18446744073709551616) := ⟨by omega, by omega, by omega, by omega⟩
    clear hn hS hl ht hV hp1 hp2 hp3 hp4 q1 q2 q3 q4 q5 q6 q7 q8 q9 q10
    go_enter Tryd.func14, Tryd.ntmps14
    go_wp2_with (first
      | ((with_reducible refine frm_load 24 ?_); refine wpList_load_mf rfl _ rfl HM.out rfl ?_)
      | (go_at_call 8; refine (mvalid_any ⟨g, nx, fl, sn, sq, L⟩ n a cap _ HS.out.1 (HS.out.2.1.keep HB0.out) HS.out.2.2.1).mono ?_; rw [HV.out]; rintro _ w1 ⟨rfl, hb1⟩; have HM1 : Hid (MfAt w1 w.heap.size ⟨g, nx, fl, sn, sq, L⟩ (.slice a n cap)) := HM.out.after hb1; have HB1 : Hid (Below w.heap.size w w1) := below_next HB0.out hb1; obtain ⟨c0, c1, c2, c3, c4, c5⟩ := HM1.out.cells; have hlt1 : w.heap.size < w1.heap.size := HM1.out.lt; clear hb1))
    obtain ⟨W0, hW0⟩ : ∃ W0, w1.alloc (.cells #[.int .u64 (nx : Int), .int .u64 (fl : Int), .int .u64 (sn : Int), .int .u64 (sq : Int)] 65) = W0 := ⟨_, rfl⟩
    have HO0 : Hid (Own64 W0 w.heap.size (.slice (some ⟨w1.heap.size, 0, none⟩) 4 4) [nx, fl, sn, sq]) := by
      rw [← hW0]
      have h := lit64_4 w1 nx fl sn sq HNN.out.1 HNN.out.2.1 HNN.out.2.2.1 HNN.out.2.2.2
      exact ⟨h.1, World.ownsRow.mono h.2 (Nat.le_of_lt hlt1)⟩
    have HW0 : Hid (Below w.heap.size w W0 ∧ MfAt W0 w.heap.size ⟨g, nx, fl, sn, sq, L⟩ (.slice a n cap)) := by
      rw [← hW0]; exact ⟨HB1.out.alloc (Nat.le_of_lt hlt1) _, HM1.out.after ((Below.refl _ _).alloc (Nat.le_refl _) _)⟩
    rw [hW0]
    clear hW0 c0 c1 c2 c3 c4 c5 hlt1
    go_loopw [4, 26] (fun vu vi wr => ∃ (v0 : Value) (k : Nat), v0 = vu ∧ k ≤ n ∧ vi = .int .i64 k ∧ Own64 wr w.heap.size v0 ([nx, fl, sn, sq] ++ smN (L.take k)) ∧ MfAt wr w.heap.size ⟨g, nx, fl, sn, sq, L⟩ (.slice a n cap) ∧ Below w.heap.size w wr) (fun _ vi _ => n - (intOf vi).toNat)
    case atStart => exact ⟨_, 0, rfl, Nat.zero_le _, rfl, by simpa [smN] using HO0.out, HW0.out.2, HW0.out.1⟩
    case round =>
      obtain ⟨v0, k, rfl, hk, rfl, hU, hmr, hbr⟩ := hrel
      have HU : Hid (Own64 wr w.heap.size v0 ([nx, fl, sn, sq] ++ smN (L.take k))) := hU
      have HMR : Hid (MfAt wr w.heap.size ⟨g, nx, fl, sn, sq, L⟩ (.slice a n cap)) := hmr
      have hltr : w.heap.size < wr.heap.size := hmr.lt
      have hUl : ([nx, fl, sn, sq] ++ smN (L.take k)).length = 4 + 4 * k := by
        rw [List.length_append, smN_length, List.length_take, HS.out.1, Nat.min_eq_left hk]; rfl
      have HUL : Hid (([nx, fl, sn, sq] ++ smN (L.take k)).length = 4 + 4 * k) := hUl
      by_cases hkn : k < n
      · obtain ⟨⟨p, q, c, f⟩, hp⟩ := sm_get (L := L) (k := k) (by rw [HS.out.1]; exact hkn)
        obtain ⟨s1, s2, s3, s4, s5, s6, s7, s8⟩ := HSG.out _ (List.mem_of_getElem? hp)
        simp only at s1 s2 s3 s4 s5 s6 s7 s8
        obtain ⟨p, rfl⟩ : ∃ k : Nat, p = k := ⟨p.toNat, by omega⟩
        obtain ⟨q, rfl⟩ : ∃ k : Nat, q = k := ⟨q.toNat, by omega⟩
        obtain ⟨c, rfl⟩ : ∃ k : Nat, c = k := ⟨c.toNat, by omega⟩
        obtain ⟨f, rfl⟩ : ∃ k : Nat, f = k := ⟨f.toNat, by omega⟩
        have hmk : Sms wr a L := HS.out.2.1.keep hbr
        obtain ⟨b, off, hab, hlt, c0, c1, c2, c3⟩ := hmk.cells k _ hp
        subst hab
        simp only at c0 c1 c2 c3
        have HTK : Hid ([nx, fl, sn, sq] ++ smN (L.take (k + 1)) = ([nx, fl, sn, sq] ++ smN (L.take k)) ++ [p, q, c, f]) := by
          show _ = _
          rw [sm_take L k _ hp, smN_append]
          simp [smN]
        have hkI : (k : Int) < (n : Int) := by omega
        have HPN : Hid (p < 18446744073709551616 ∧ q < 18446744073709551616 ∧ c < 18446744073709551616 ∧ f < 18446744073709551616) := ⟨by omega, by omega, by omega, by omega⟩
        have HO : Hid (((wr.alloc (.cells #[.int .i64 (p : Int), .int .i64 (q : Int), .int .i64 (c : Int), .int .i64 (f : Int)] 55)).alloc (.cells #[.int .u64 (p : Int), .int .u64 (q : Int), .int .u64 (c : Int), .int .u64 (f : Int)] 65)).ownsRow w.heap.size 65 1 v0 (4 + 4 * k) (B64 ([nx, fl, sn, sq] ++ smN (L.take k)))) := by
          have h := World.ownsRow.alloc (World.ownsRow.alloc hU.2 (.cells #[.int .i64 (p : Int), .int .i64 (q : Int), .int .i64 (c : Int), .int .i64 (f : Int)] 55)) (.cells #[.int .u64 (p : Int), .int .u64 (q : Int), .int .u64 (c : Int), .int .u64 (f : Int)] 65)
          rw [hUl] at h
          exact h
        have HB2 : Hid (Below wr.heap.size wr ((wr.alloc (.cells #[.int .i64 (p : Int), .int .i64 (q : Int), .int .i64 (c : Int), .int .i64 (f : Int)] 55)).alloc (.cells #[.int .u64 (p : Int), .int .u64 (q : Int), .int .u64 (c : Int), .int .u64 (f : Int)] 65))) := ((Below.refl _ _).alloc (Nat.le_refl _) _).alloc (by simp) _
        have HBR : Hid (Below w.heap.size w wr) := hbr
        clear hp hU hmr hUl hmk s1 s3 s5 s7 hbr
        go_wp2_with (at_builtin; refine wpList_append_own _ rfl _ _ 66 rfl w.heap.size 65 i0 (.int .u64 0) 1 8 Tryd.underlying66 hi hz0 hz1 hz2 rfl (by decide) _ _ _ rfl HO.out ⟨wr.heap.size + 1, 0, none⟩ 4 4 [.int .u64 (p : Int), .int .u64 (q : Int), .int .u64 (c : Int), .int .u64 (f : Int)] rfl rfl (by have h := cell_new4 (wr.alloc (.cells #[.int .i64 (p : Int), .int .i64 (q : Int), .int .i64 (c : Int), .int .i64 (f : Int)] 55)) (.int .u64 (p : Int)) (.int .u64 (q : Int)) (.int .u64 (c : Int)) (.int .u64 (f : Int)) 65; simpa using h) (one_new4 _ _ _ _) (by unfold maxLen; omega) (by omega) (by simp; omega) ?_; intro v4 w4 ho4 hg4 _; have HB4 : Hid (Below w.heap.size w w4) := grown_row (HBR.out.trans (HB2.out.mono (Nat.le_of_lt hltr))) HO.out (by simp; omega) hg4; have HM4 : Hid (MfAt w4 w.heap.size ⟨g, nx, fl, sn, sq, L⟩ (.slice (some ⟨b, off, none⟩) n cap)) := grown_boxM HO.out hg4 (HMR.out.after HB2.out) (by decide); have HO4 : Hid (Own64 w4 w.heap.size v4 (([nx, fl, sn, sq] ++ smN (L.take k)) ++ [p, q, c, f])) := Own64.snoc4 HU.out.1 HPN.out.1 HPN.out.2.1 HPN.out.2.2.1 HPN.out.2.2.2 (by rw [HUL.out]; exact ho4); clear hg4 ho4)
        go_roundw
        case rel => exact ⟨v4, k + 1, rfl, by omega, by go_num, by rw [HTK.out]; exact HO4.out, HM4.out, HB4.out⟩
        case measure => simp [intOf]; omega
      · obtain rfl : n = k := by omega
        have HUE : Hid ([nx, fl, sn, sq] ++ smN (L.take n) = mfN ⟨g, nx, fl, sn, sq, L⟩) := by show _ = _; rw [List.take_of_length_le (by rw [HS.out.1]; exact Nat.le_refl _), HN.out]
        obtain ⟨ag, cg, hv0, hnum⟩ := hU.slice
        rw [hUl] at hv0
        subst hv0
        rw [HUE.out] at hnum
        have HNU : Hid (Nums wr ag (mfN ⟨g, nx, fl, sn, sq, L⟩)) := hnum
        have HBR : Hid (Below w.heap.size w wr) := hbr
        obtain ⟨N, hN⟩ : ∃ N, 4 + 4 * n = N := ⟨_, rfl⟩
        have HNE : Hid ((mfN ⟨g, nx, fl, sn, sq, L⟩).length = N ∧ N ≤ 1048576) := ⟨by rw [HML.out, hN], by omega⟩
        obtain ⟨BL, hBL⟩ : ∃ BL, (encAll (mfN ⟨g, nx, fl, sn, sq, L⟩)).length = BL := ⟨_, rfl⟩
        have HBL : Hid ((encAll (mfN ⟨g, nx, fl, sn, sq, L⟩)).length = BL ∧ BL ≤ 4374) := ⟨hBL, by rw [← hBL]; exact HBD.out⟩
        have HEF : Hid (encE (4 : Int) (g : Int) BL = 0 ∧ encL (4 : Int) (g : Int) (encAll (mfN ⟨g, nx, fl, sn, sq, L⟩)) = frameL 4 g (encAll (mfN ⟨g, nx, fl, sn, sq, L⟩))) := by
          have h := enc_frame4 4 g BL (by omega) (by omega) HG.out (by have := HBL.out.2; omega)
          refine ⟨h, ?_⟩
          unfold encL
          rw [hBL, show encE (4 : Int) (g : Int) BL = 0 from h, if_pos rfl]
          rfl
        have k0 : wr.cell? ⟨w.heap.size, 0, none⟩ = some (.int .i64 (g : Int)) := hmr.cell 0 _ rfl
        rw [hN]
        clear hnum hU hUl hmr hbr hN hBL HUE HU HUL HMR b1 b2 b3 b4
        go_wp2
        go_region_held3 (fun y => y.cell? ⟨w.heap.size, 0, none⟩ = some (.int .i64 (g : Int))) (go_keep) (first
          | (go_at_call 33; refine (encAll_any (mfN ⟨g, nx, fl, sn, sq, L⟩) N ag cg _ HNE.out.1 (HNU.out.keep (Below.refl _ _).drew) HNE.out.2).mono ?_; rintro _ w5 ⟨v5, rfl, ho5, hb5⟩; have HB5 : Hid (Below w.heap.size w w5) := below_next HBR.out ((Below.refl _ _).drew.trans hb5); obtain ⟨a5, c5, hv5, hc5, hn5, hy5, hz5⟩ := ho5.shape; rw [HBL.out.1] at hv5; subst hv5; have HY5 : Hid (Bytes w5 a5 (encAll (mfN ⟨g, nx, fl, sn, sq, L⟩))) := hy5; have HZ5 : Hid ((a5 = none → c5 = 0) ∧ ∀ x, a5 = some x → ∃ b off, x = ⟨b, off, none⟩) := own_addr hz5; have HL5 : Hid (w.heap.size < w5.heap.size) := Nat.lt_of_lt_of_le hltr hb5.size; have k5 : w5.cell? ⟨w.heap.size, 0, none⟩ = some (.int .i64 (g : Int)) := (hb5.cell (p := ⟨w.heap.size, 0, none⟩) hltr).trans k0; clear ho5 hb5 hy5 hz5 hc5 hn5)
          | (go_at_call 32; refine (fenc_any 4 g (encAll (mfN ⟨g, nx, fl, sn, sq, L⟩)) BL a5 c5 _ HBL.out.1 HY5.out HZ5.out.1 (by have := HBL.out.2; omega) HZ5.out.2 (HS.out.2.2.2.keep HB5.out)).mono ?_; rw [HEF.out.1, HEF.out.2]; rintro _ w6 ⟨v6, rfl, ho6, hb6⟩; have HB6 : Hid (Below w.heap.size w w6) := below_next HB5.out hb6; have HO6 : Hid (Own w6 w.heap.size v6 (frameL 4 g (encAll (mfN ⟨g, nx, fl, sn, sq, L⟩)))) := ⟨ho6.1, World.ownsRow.mono ho6.2 HB5.out.size⟩; have k6 : w6.cell? ⟨w.heap.size, 0, none⟩ = some (.int .i64 (g : Int)) := (hb6.cell (p := ⟨w.heap.size, 0, none⟩) HL5.out).trans k5; clear ho6 hb6))
        go_wp2
        go_ret2
        exact ⟨v6, by rw [HR.out.1]; rfl, by rw [HR.out.2]; exact HO6.out, HB6.out⟩
  · have HR : Hid (mfE m = 80 ∧ mfL m = []) := ⟨if_neg hV, if_neg hV⟩
    have HV : Hid (mvB m = false) := by show _ = _; simpa using hV
    clear hn hS hl ht hV
    go_enter Tryd.func14, Tryd.ntmps14
    go_wp2_with (first
      | ((with_reducible refine frm_load 24 ?_); refine wpList_load_mf rfl _ rfl HM.out rfl ?_)
      | (go_at_call 8; refine (mvalid_any m n a cap _ HS.out.1 (HS.out.2.1.keep HB0.out) HS.out.2.2.1).mono ?_; rw [HV.out]; rintro _ w1 ⟨rfl, hb1⟩; have HB1 : Hid (Below w.heap.size w w1) := below_next HB0.out hb1; clear hb1))
    go_ret2
    exact ⟨_, by rw [HR.out.1]; rfl, by rw [HR.out.2]; exact ownNilM _ _, HB1.out⟩
set_option maxRecDepth 20000 in
set_option maxHeartbeats 1000000 in
theorem msize_any (m : Mf) (n : Nat) (a : Option Addr) (cap : Nat) (w : World) (hn : m.segs.length = n) (hS : Sms w a m.segs) (hl : n ≤ maxLen) (ht : Tab w) :
    Calls Tryd.prog 16 #[MfV m (.slice a n cap)] w fun e w' => e = .returned (.int .i64 ((mfL m).length : Int)) ∧ Below w.heap.size w w' := by
  have HS : Hid (m.segs.length = n ∧ Sms w a m.segs ∧ n ≤ maxLen ∧ Tab w) := ⟨hn, hS, hl, ht⟩
  have HM : Hid (MfAt (w.alloc (.cells (mfA m (.slice a n cap)) 24)) w.heap.size m (.slice a n cap)) := MfAt.new w m _
  have HB0 : Hid (Below w.heap.size w (w.alloc (.cells (mfA m (.slice a n cap)) 24))) := (Below.refl _ _).alloc (Nat.le_refl _) _
  obtain ⟨K, hK⟩ : ∃ K, (mfL m).length = K := ⟨_, rfl⟩
  have HK : Hid ((mfL m).length = K) := hK
  rw [hK]
  clear hn hS hl ht hK
  go_enter Tryd.func16, Tryd.ntmps16
  go_wp2_with (first
    | ((with_reducible refine frm_load 24 ?_); refine wpList_load_mf rfl _ rfl HM.out rfl ?_)
    | (go_at_call 14; refine (menc_any m n a cap _ HS.out.1 (HS.out.2.1.keep HB0.out) HS.out.2.2.1 (HS.out.2.2.2.keep HB0.out)).mono ?_; rintro _ w1 ⟨v1, rfl, ho1, hb1⟩; obtain ⟨a1, c1, hv1, _⟩ := ho1.shape; rw [HK.out] at hv1; subst hv1; have HB1 : Hid (Below w.heap.size w w1) := below_next HB0.out hb1; clear hb1 ho1))
  go_ret
  exact ⟨rfl, HB1.out⟩
end Go.Proofs.YtnfkdgjgglnniaaDoor
namespace Go.Proofs.YtnfkdgjgglnniaaDoor
open Go.ChangeShapes Go.WideShapes Go.ChangeAt Go.RowKit
set_option linter.unusedVariables false
/-- an iterator's contract: each item x comes in a world W1 of which X pre x W1 is known -/
def SeqW {α : Type} (F : Fence) (n : Nat) (P : Program) (g : Nat) (lb : Array Value) (encs : α → Array Value) (Kp : World → World → Prop) (X : List α → α → World → Prop) (S Sp : List α → Prop) (w : World) : Prop :=
  ∀ (l : Nat) (J Jx : List α → World → Prop) (W : World), Below w.heap.size w W → AbidesFrom W.heap.size J → AbidesFrom W.heap.size Jx →
    (∀ pre x W1, J pre W1 → X pre x W1 → YieldAt F (n - 1) P l (encs x) W1 fun e W' =>
      (e = .returned (.bool true) ∧ J (pre ++ [x]) W' ∧ Kp W1 W') ∨ (e = .returned (.bool false) ∧ Jx (pre ++ [x]) W')) →
    J [] W →
    CallsIn F n P g (#[.func (.yield l) #[] #[]] ++ lb) W fun e W' => (∃ v, e = .returned v) ∧ ((∃ xs, S xs ∧ J xs W') ∨ (∃ pre, Sp pre ∧ Jx pre W'))
section
variable {F : Fence} {n : Nat} {P : Program}
/-- one round of such a loop, from the yield to its end -/
theorem round_w {α : Type} {ps : Array Tmp} {assign body : Code} {tmps : Array Value} {fn : FuncId} {w : World} {encs : α → Array Value} {Kp : World → World → Prop} {X : List α → α → World → Prop} {I : List α → World → Prop} {Ix : Code → List α → World → Prop} {Ax : List α → α → Act → World → Prop}
    (hfn : F.fn fn) (hps : ∀ x, (encs x).size = ps.size)
    (hKt : ∀ {A B C : World}, Kp A B → Kp B C → Kp A C) (hKb : ∀ (W : World) (l : Nat) (o o' : Obj), w.heap.size ≤ l → W.heap[l]? = some o → o.isCells = false → o.isWalk = false → Kp W (W.putObj l o'))
    (hI : OwnFrom w.heap.size I) (hIx : ∀ c, OwnFrom w.heap.size (Ix c)) (hAx : ∀ pre x a', OwnFrom w.heap.size (fun (_ : Unit) W => Ax pre x a' W))
    (hassign : ∀ (l : Nat) (pre : List α) (x : α) (W : World) (K : Act → World → Prop), I pre W → X pre x W → (∀ a' W', KeepsFrom w.heap.size W W' → Kp W W' → I pre W' → Ax pre x a' W' → K a' W') →
      assign.wpIn (F.inRound l) (n - 1 - 1) P (Exit.then K (fun _ _ _ => False)) { tmps := (ps.zip (encs x)).foldl (fun t (p, v) => t.setIfInBounds p v) tmps, defers := [] } W)
    (hbody : ∀ (l : Nat) (pre : List α) (x : α) (a' : Act) (W : World), I pre W → Ax pre x a' W → body.wpIn (F.inRound l) (n - 1 - 1) P (ownPostG w.heap.size Kp I Ix (pre ++ [x]) W) a' W)
    (rec : LoopState → Option Code → Loop) (hrec : rec = fun st pe => { state := st, pending := pe, fn, tmps, params := ps, assign, body, defers := w.heap.size })
    (pre : List α) (x : α) (W : World) (hi : I pre W) (hl : W.heap[w.heap.size + 1]? = some (.loop (rec .ready none))) (hk : W.heap[w.heap.size]? = some (.deferred (some []))) (hX : X pre x W) :
    YieldAt F (n - 1 - 1) P (w.heap.size + 1) (encs x) W fun e W' =>
      (e = .returned (.bool true) ∧ (I (pre ++ [x]) W' ∧ W'.heap[w.heap.size + 1]? = some (.loop (rec .ready none)) ∧ W'.heap[w.heap.size]? = some (.deferred (some []))) ∧ Kp W W') ∨
      (e = .returned (.bool false) ∧ ∃ c, Ix c (pre ++ [x]) W' ∧ W'.heap[w.heap.size + 1]? = some (.loop (rec .done (some c))) ∧ W'.heap[w.heap.size]? = some (.deferred (some []))) := by
  have hy := run_yield (P := P) (args := encs x) hl (by rw [hrec]; exact hps x)
  rw [hrec] at hy
  refine ⟨fn, _, assign, body, hy, roundIn_of_wpIn hfn (hassign _ pre x W _ hi hX fun a' V hfrom hkeep hi' hax => ?_)⟩
  have hlV := hfrom.same _ _ (by omega) hl rfl
  have hkV := hfrom.same _ _ (Nat.le_refl _) hk rfl
  have hlt : w.heap.size + 1 < V.heap.size := (Array.getElem?_eq_some_iff.1 hlV).1
  refine ⟨_, run_beginRound hlV (by rw [hrec]), ?_⟩
  obtain ⟨B, hB⟩ : ∃ B, B = V.putObj (w.heap.size + 1) (.loop { rec .ready none with state := .busy }) := ⟨_, rfl⟩
  rw [← hB]
  have hlB : B.heap[w.heap.size + 1]? = some (.loop { rec .ready none with state := .busy }) := by rw [hB]; exact World.putObj_heap_same hlt
  have hkB : B.heap[w.heap.size]? = some (.deferred (some [])) := by rw [hB]; exact (World.putObj_heap_other (by omega)).trans hkV
  have hVB : Kp V B := by rw [hB]; exact hKb _ _ _ _ (by omega) hlV rfl rfl
  have hiB : I pre B := by rw [hB]; exact hI.putObj _ hi' (by omega) hlV rfl
  have haB : Ax pre x a' B := by rw [hB]; exact (hAx pre x a').putObj (s := ()) _ hax (by omega) hlV rfl
  have close : ∀ (jump : Option Code) (C : World), KeepsFrom w.heap.size B C → ∃ D, D = C.putObj (w.heap.size + 1) (.loop (rec (if jump.isNone then .ready else .done) jump)) ∧ (Instr.endRound (w.heap.size + 1) jump).run P C = .ok (.bool jump.isNone) D ∧ C.heap[w.heap.size + 1]? = some (.loop { rec .ready none with state := .busy }) ∧ D.heap[w.heap.size + 1]? = some (.loop (rec (if jump.isNone then .ready else .done) jump)) ∧ D.heap[w.heap.size]? = some (.deferred (some [])) := by
    intro jump C hC
    have hlC := hC.same _ _ (by omega) hlB rfl
    have hkC := hC.same _ _ (Nat.le_refl _) hkB rfl
    have hend := run_endRound (P := P) jump hlC
    refine ⟨_, rfl, ?_, hlC, World.putObj_heap_same (Array.getElem?_eq_some_iff.1 hlC).1, (World.putObj_heap_other (by omega)).trans hkC⟩
    rw [hrec] at hend ⊢
    exact hend
  refine wpIn_mono (hbody _ pre x a' B hiB haB) fun e a3 C hp => ?_
  cases e with
  | normal =>
    obtain ⟨hC, hkp, hiC⟩ := hp
    obtain ⟨D, rfl, hr, hlC, hlD, hkD⟩ := close none C hC
    exact ⟨_, _, hr, .inl ⟨rfl, ⟨hI.putObj _ hiC (by omega) hlC rfl, hlD, hkD⟩, hKt hkeep (hKt (hKt hVB hkp) (hKb _ _ _ _ (by omega) hlC rfl rfl))⟩⟩
  | ret =>
    obtain ⟨hC, hiC⟩ := hp
    obtain ⟨D, rfl, hr, hlC, hlD, hkD⟩ := close (some .ret) C hC
    exact ⟨_, _, hr, .inr ⟨rfl, .ret, (hIx _).putObj _ hiC (by omega) hlC rfl, hlD, hkD⟩⟩
  | exit id =>
    obtain ⟨hC, hiC⟩ := hp
    obtain ⟨D, rfl, hr, hlC, hlD, hkD⟩ := close (some (.exit id)) C hC
    exact ⟨_, _, hr, .inr ⟨rfl, .exit id, (hIx _).putObj _ hiC (by omega) hlC rfl, hlD, hkD⟩⟩
  | goto t =>
    obtain ⟨hC, hiC⟩ := hp
    obtain ⟨D, rfl, hr, hlC, hlD, hkD⟩ := close (some (.goto t)) C hC
    exact ⟨_, _, hr, .inr ⟨rfl, .goto t, (hIx _).putObj _ hiC (by omega) hlC rfl, hlD, hkD⟩⟩
  | panic ch => exact hp.elim
  | outgrown => exact hp.elim
/-- the loop, by the iterator's contract and one walk of its body -/
theorem range_w {α : Type} {g : Operand} {ps : Array Tmp} {assign body : Code} {Q : Exit → Act → World → Prop} {a : Act} {w : World}
    (hro : F.round = none) (h1 : 1 ≤ n) {gf : Nat} {lb : Array Value} (hg : a.eval g = .func (.func gf) #[] lb) (hFg : F.fn gf) (eg : ∀ args w, (callFunc gf args).run P w = .ok (.enter gf args) w)
    {encs : α → Array Value} {Kp : World → World → Prop} {X : List α → α → World → Prop} {S Sp : List α → Prop} (hseq : SeqW F (n - 1) P gf lb encs Kp X S Sp w) (hps : ∀ x, (encs x).size = ps.size)
    (hKt : ∀ {A B C : World}, Kp A B → Kp B C → Kp A C) (hKb : ∀ (W : World) (l : Nat) (o o' : Obj), w.heap.size ≤ l → W.heap[l]? = some o → o.isCells = false → o.isWalk = false → Kp W (W.putObj l o'))
    (I : List α → World → Prop) (Ix : Code → List α → World → Prop) (hI : OwnFrom w.heap.size I) (hIx : ∀ c, OwnFrom w.heap.size (Ix c)) (h0 : I [] w) (Ax : List α → α → Act → World → Prop) (hAx : ∀ pre x a', OwnFrom w.heap.size (fun (_ : Unit) W => Ax pre x a' W))
    (hassign : ∀ (l : Nat) (pre : List α) (x : α) (W : World) (K : Act → World → Prop), I pre W → X pre x W → (∀ a' W', KeepsFrom w.heap.size W W' → Kp W W' → I pre W' → Ax pre x a' W' → K a' W') →
      assign.wpIn (F.inRound l) (n - 1 - 1) P (Exit.then K (fun _ _ _ => False)) { tmps := (ps.zip (encs x)).foldl (fun t (p, v) => t.setIfInBounds p v) a.tmps, defers := [] } W)
    (hbody : ∀ (l : Nat) (pre : List α) (x : α) (a' : Act) (W : World), I pre W → Ax pre x a' W → body.wpIn (F.inRound l) (n - 1 - 1) P (ownPostG w.heap.size Kp I Ix (pre ++ [x]) W) a' W)
    (hdone : ∀ (D : Nat) (xs : List α) (W : World), w.heap.size ≤ D → S xs → I xs W → W.heap[D]? = some (.deferred (some [])) → Q .normal { a with defers := { target := .collected D, args := #[] } :: a.defers } W)
    (hstop : ∀ (D : Nat) (c : Code) (pre : List α) (W : World), w.heap.size ≤ D → Sp pre → Ix c pre W → W.heap[D]? = some (.deferred (some [])) → c.wpIn F n P Q { a with defers := { target := .collected D, args := #[] } :: a.defers } W) :
    (Code.rangeFunc g ps assign body).wpIn F n P Q a w := by
  refine wpIn_rangeFunc fun fn hfn => ?_
  rw [hro]
  obtain ⟨rec, hrec⟩ : ∃ rec : LoopState → Option Code → Loop, rec = fun st pe => { state := st, pending := pe, fn, tmps := a.tmps, params := ps, assign, body, defers := w.heap.size } := ⟨_, rfl⟩
  obtain ⟨V, hV⟩ : ∃ V, V = (w.alloc (.deferred (some []))).alloc (.loop (rec .ready none)) := ⟨_, rfl⟩
  have hlV : V.heap[w.heap.size + 1]? = some (.loop (rec .ready none)) := by
    have h := World.alloc_heap_new (w.alloc (.deferred (some []))) (.loop (rec .ready none))
    rw [World.size_alloc] at h
    rw [hV]; exact h
  have hkV : V.heap[w.heap.size]? = some (.deferred (some [])) := by rw [hV]; exact (Below.heap_alloc _ _ _ (by simp)).trans (World.alloc_heap_new w _)
  have hiV : I [] V := by rw [hV]; exact hI.alloc _ (hI.alloc _ h0)
  have hbV : Below w.heap.size w V := by rw [hV]; exact ((Below.refl _ w).alloc (Nat.le_refl _) _).alloc (by simp) _
  have hsV : w.heap.size ≤ V.heap.size := hbV.size
  refine ⟨w.heap.size + 1, [{ target := .collected w.heap.size, args := #[] }], V, { target := .fn (.func gf) lb, args := #[.func (.yield (w.heap.size + 1)) #[] #[]] }, V, gf, #[.func (.yield (w.heap.size + 1)) #[] #[]] ++ lb, V, ?_, ?_, ?_, ?_, fun _ => h1, ?_⟩
  · rw [hV, hrec]; exact run_enterLoop_outer _ _ _ _ _
  · simp only [resolve, hg]
    simp [go_sem]
  · intro f' hf'
    simp [Target.leads] at hf'
    subst hf'
    exact hFg
  · simp [invoke, go_sem, eg]
  · have turn : ∀ {A : World} {row : Option Nat}, (∀ r, row = some r → V.heap.size ≤ r ∧ ∃ o : Obj, A.heap[r]? = some o ∧ o.isWalk = true) → ∀ r, row = some r → w.heap.size ≤ r ∧ ∃ o : Obj, A.heap[r]? = some o ∧ o.isCells = false := by
      intro A row hr r e
      obtain ⟨q1, o, q2, q3⟩ := hr r e
      exact ⟨Nat.le_trans hsV q1, o, q2, Obj.not_cells_of_walk q3⟩
    refine (hseq (w.heap.size + 1)
      (fun pre W => I pre W ∧ W.heap[w.heap.size + 1]? = some (.loop (rec .ready none)) ∧ W.heap[w.heap.size]? = some (.deferred (some [])))
      (fun pre W => ∃ c, Ix c pre W ∧ W.heap[w.heap.size + 1]? = some (.loop (rec .done (some c))) ∧ W.heap[w.heap.size]? = some (.deferred (some [])))
      V hbV ?_ ?_ ?_ ⟨hiV, hlV, hkV⟩).mono ?_
    · rintro s A B row ⟨q1, q2, q3⟩ hgr hr
      exact ⟨hI s A B row q1 hgr (turn hr), (grownBy_keeps hgr (fun r e => (hr r e).2) q2 rfl).trans q2, (grownBy_keeps hgr (fun r e => (hr r e).2) q3 rfl).trans q3⟩
    · rintro s A B row ⟨c, q1, q2, q3⟩ hgr hr
      exact ⟨c, hIx c s A B row q1 hgr (turn hr), (grownBy_keeps hgr (fun r e => (hr r e).2) q2 rfl).trans q2, (grownBy_keeps hgr (fun r e => (hr r e).2) q3 rfl).trans q3⟩
    · rintro pre x W ⟨q1, q2, q3⟩ hX
      exact round_w (Kp := Kp) hfn hps hKt hKb hI hIx hAx hassign hbody rec hrec pre x W q1 q2 q3 hX
    · rintro e W2 ⟨⟨v, rfl⟩, (⟨xs, hS, q1, q2, q3⟩ | ⟨pre, hSp, c, q1, q2, q3⟩)⟩
      · have h := run_endLoop (P := P) q2 (by rw [hrec]; simp)
        rw [hrec] at h
        exact ⟨none, _, h, hdone _ xs _ (Nat.le_refl _) hS (hI.putObj _ q1 (by omega) q2 rfl) ((World.putObj_heap_other (by omega)).trans q3)⟩
      · have h := run_endLoop (P := P) q2 (by rw [hrec]; simp)
        rw [hrec] at h
        exact ⟨some c, _, h, hstop _ c pre _ (Nat.le_refl _) hSp ((hIx c).putObj _ q1 (by omega) q2 rfl) ((World.putObj_heap_other (by omega)).trans q3)⟩
end
end Go.Proofs.YtnfkdgjgglnniaaDoor
