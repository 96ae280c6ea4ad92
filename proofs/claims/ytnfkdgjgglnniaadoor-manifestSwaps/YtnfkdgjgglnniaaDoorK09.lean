/- Own texts, joined: Cpn, Mf2. -/
import Derived.Test.YtnfkdgjgglnniaaDoorK08
import Derived.Test.YtnfkdgjgglnniaaDoorK00
import Derived.Test.YtnfkdgjgglnniaaDoorK07
import Derived.BigQuiet
namespace Go.Proofs.YtnfkdgjgglnniaaDoor
open Go.ChangeShapes Go.WideShapes Go.ChangeAt Go.RowKit
set_option linter.unusedVariables false
theorem bel_drewN {B : Nat} {a w : World} (h : Below B a w) (n : Nat) : Below B a (w.drewN n) := by
  induction n with
  | zero => exact h
  | succ n ih => exact ih.drew
end Go.Proofs.YtnfkdgjgglnniaaDoor
namespace Go.Proofs.YtnfkdgjgglnniaaDoor
open Go.ChangeShapes Go.WideShapes Go.ChangeAt Go.RowKit
set_option linter.unusedVariables false
theorem headB_facts {m : Mf} (h : headB m = true) : 1 ≤ m.gen ∧ m.gen ≤ 1099511627776 ∧ 2 ≤ m.next ∧ m.next ≤ 1000000 ∧ 0 ≤ m.snapSeq ∧ m.snapSeq ≤ 1099511627776 ∧ 0 ≤ m.floor ∧ m.floor ≤ m.snapSeq ∧ 0 ≤ m.snap ∧ m.snap ≤ m.next - 1 ∧ (m.snap = 0 ↔ m.snapSeq = 0) := of_decide_eq_true h
theorem segsB_cons (next num first : Int) (s : Sm) (r : List Sm) : segsB next num first (s :: r) = if num + 1 ≤ s.num ∧ s.num ≤ next - 1 ∧ s.first = first ∧ endB s r.isEmpty = true then segsB next s.num (s.first + s.count) r else false := rfl
theorem endB_false {s : Sm} (h : endB s false = true) : 1 ≤ s.count ∧ s.count ≤ 512 ∧ 1 ≤ s.foot ∧ s.foot ≤ 1099511627776 := by
  simpa [endB] using h
theorem endB_true {s : Sm} (h : endB s true = true) : s.count = 0 ∧ s.foot = 0 ∧ s.first ≤ 1099511627777 := by
  simpa [endB] using h
theorem endB_count {s : Sm} {b : Bool} (h : endB s b = true) : 0 ≤ s.count ∧ s.count ≤ 512 := by
  cases b with
  | true => have := endB_true h; omega
  | false => have := endB_false h; omega
set_option maxRecDepth 20000 in
set_option maxHeartbeats 4000000 in
theorem mrsegs_any (m : Mf) (n : Nat) (a : Option Addr) (cap : Nat) (w : World) (hn : m.segs.length = n) (hS : Sms w a m.segs) (hl : n ≤ maxLen) (hH : headB m = true) :
    Calls Tryd.prog 26 #[MfV m (.slice a n cap)] w fun e w' => e = .returned (.bool (listB m)) ∧ Below w.heap.size w w' := by
  have hm := headB_facts hH
  obtain ⟨g, nx, fl, sn, sq, L⟩ := m
  simp only at hn hS hm
  obtain ⟨_, _, hx1, hx2, hq1, hq2, hf1, hf2, _⟩ := hm
  have hf3 : fl ≤ 1099511627776 := by omega
  have HS : Hid (L.length = n ∧ Sms w a L ∧ n ≤ maxLen) := ⟨hn, hS, hl⟩
  by_cases hr : 1 ≤ n ∧ n ≤ 256
  · have HL : Hid (listB ⟨g, nx, fl, sn, sq, L⟩ = segsB nx 0 (fl + 1) L) := by show _ = _; unfold listB; simp only; rw [hn, if_pos hr]
    have hr1 : (1 : Int) ≤ (n : Int) := by omega
    have hr2 : (n : Int) ≤ 256 := by omega
    have hr3 : n ≤ 256 := hr.2
    clear hn hS hl hH hr hq1 hq2 hf2
    simp only [MfV]
    go_enter Tryd.func26, Tryd.ntmps26
    go_wp2_with (go_at_call 41; refine (mwithin_yes 1 (n : Int) 256 _ hr1 hr2).mono ?_; rintro _ _ ⟨rfl, rfl⟩)
    go_quiet (fail)
    go_wp2
    obtain ⟨W0, hW0⟩ : ∃ W0, (w.alloc (.cells #[.int .i64 g, .int .i64 nx, .int .i64 fl, .int .i64 sn, .int .i64 sq, .slice a n cap] 24)).drewN nq = W0 := ⟨_, rfl⟩
    have HW0 : Hid (Below w.heap.size w W0 ∧ W0.heap[w.heap.size]? = some (.cells #[.int .i64 g, .int .i64 nx, .int .i64 fl, .int .i64 sn, .int .i64 sq, .slice a n cap] 24) ∧ w.heap.size < W0.heap.size) := by
      rw [← hW0]; exact ⟨bel_drewN ((Below.refl _ _).alloc (Nat.le_refl _) _) _, heap_alloc_new w _, by simp⟩
    rw [hW0]
    clear hW0
    go_loopw [3, 4, 19] (fun v3 v4 vi wr => ∃ (k : Nat) (x y : Int), k ≤ n ∧ v3 = .int .i64 x ∧ v4 = .int .i64 y ∧ vi = .int .i64 k ∧ 0 ≤ x ∧ x ≤ 1000000 ∧ 0 ≤ y ∧ y ≤ 1099511627777 + 512 * (k : Int) ∧ segsB nx 0 (fl + 1) L = segsB nx x y (L.drop k) ∧ Below W0.heap.size W0 wr) (fun _ _ vi _ => n - (intOf vi).toNat)
    case atStart => exact ⟨0, 0, fl + 1, Nat.zero_le _, rfl, by go_num, rfl, by omega, by omega, by omega, by omega, rfl, Below.refl _ _⟩
    case round =>
      obtain ⟨k, x, y, hk, rfl, rfl, rfl, hx0, hxm, hy0, hym, hft, hbr⟩ := hrel
      have HFT : Hid (segsB nx 0 (fl + 1) L = segsB nx x y (L.drop k)) := hft
      have hsz := hbr.size
      have hb0 : wr.heap[w.heap.size]? = some (.cells #[.int .i64 g, .int .i64 nx, .int .i64 fl, .int .i64 sn, .int .i64 sq, .slice a n cap] 24) := (hbr.block _ HW0.out.2.2).trans HW0.out.2.1
      have g1 : wr.cell? ⟨w.heap.size, 1, none⟩ = some (.int .i64 nx) := by rw [cell_of_row _ _ 1 _ _ _ hb0]; rfl
      have g5 : wr.cell? ⟨w.heap.size, 5, none⟩ = some (.slice a n cap) := by rw [cell_of_row _ _ 5 _ _ _ hb0]; rfl
      have hlw : w.heap.size < wr.heap.size := Nat.lt_of_lt_of_le HW0.out.2.2 hsz
      have HBW : Hid (Below w.heap.size w wr) := HW0.out.1.trans (hbr.mono (Nat.le_of_lt HW0.out.2.2))
      clear hft hb0
      by_cases hkn : k < n
      · obtain ⟨⟨p, q, c, f⟩, hp⟩ := sm_get (L := L) (k := k) (by rw [HS.out.1]; exact hkn)
        have hmk : Sms wr a L := HS.out.2.1.keep HBW.out
        obtain ⟨b, off, hab, hlt, c0, c1, c2, c3⟩ := hmk.cells k _ hp
        subst hab
        simp only at c0 c1 c2 c3
        have hdr := sm_drop L k _ hp
        have hkI : (k : Int) < (n : Int) := by omega
        obtain ⟨act, hact⟩ : ∃ act, (L.drop (k + 1)).isEmpty = act := ⟨_, rfl⟩
        have hact2 : ((k : Int) == (n : Int) - 1) = act := by
          rw [← hact, ← HS.out.1]
          by_cases he : k + 1 = n
          · rw [List.drop_eq_nil_of_le (by rw [HS.out.1]; omega), HS.out.1]
            simp; omega
          · have h1 : ((k : Int) == (L.length : Int) - 1) = false := by rw [HS.out.1]; simp; omega
            have h2 : (L.drop (k + 1)).isEmpty = false := by
              cases hd : L.drop (k + 1) with
              | nil => exfalso; have := congrArg List.length hd; rw [List.length_drop, HS.out.1] at this; simp at this; omega
              | cons _ _ => rfl
            rw [h1, h2]
        have HST : Hid (segsB nx x y (L.drop k) = if x + 1 ≤ p ∧ p ≤ nx - 1 ∧ q = y ∧ endB ⟨p, q, c, f⟩ act = true then segsB nx p (q + c) (L.drop (k + 1)) else false) := by show _ = _; rw [hdr, segsB_cons, hact]
        clear hdr hp hact hmk
        by_cases h1 : x + 1 ≤ p ∧ p ≤ nx - 1
        · by_cases h2 : q = y
          · subst h2
            have hqq : (q != q) = false := by simp
            cases h3 : endB ⟨p, q, c, f⟩ act with
            | true =>
              have hc := endB_count h3
              simp only at hc
              have HT : Hid (segsB nx 0 (fl + 1) L = segsB nx p (q + c) (L.drop (k + 1))) := by show _ = _; rw [HFT.out, HST.out, if_pos ⟨h1.1, h1.2, rfl, h3⟩]
              have HE : Hid (endB ⟨p, q, c, f⟩ act = true) := h3
              obtain ⟨h11, h12⟩ := h1
              obtain ⟨hc1, hc2⟩ := hc
              have HX : Hid (x + 1 ≤ p ∧ p ≤ nx - 1) := ⟨h11, h12⟩
              have hpb : p ≤ 1000000 := by omega
              have hp0 : 0 ≤ p := by omega
              clear h3 HFT HST h11 h12
              go_wp2_with (first
                | (go_at_call 41; refine (mwithin_yes (x + 1) p (nx - 1) _ HX.out.1 HX.out.2).mono ?_; rintro _ _ ⟨rfl, rfl⟩)
                | (go_at_call 42; refine (mrend_any ⟨p, q, c, f⟩ act _).mono ?_; rw [HE.out]; rintro _ w5 ⟨rfl, hb5⟩; have HB5 : Hid (Below wr.heap.size wr w5) := ((Below.refl _ _).alloc (Nat.le_refl _) _).trans (hb5.mono (by simp)); have k0 : w5.cell? ⟨wr.heap.size, 0, none⟩ = some (.int .i64 p) := (hb5.cell (p := ⟨wr.heap.size, 0, none⟩) (by simp)).trans (by rw [cell_of_row _ _ 0 _ _ _ (heap_alloc_new wr _)]; rfl); have k1 : w5.cell? ⟨wr.heap.size, 1, none⟩ = some (.int .i64 q) := (hb5.cell (p := ⟨wr.heap.size, 1, none⟩) (by simp)).trans (by rw [cell_of_row _ _ 1 _ _ _ (heap_alloc_new wr _)]; rfl); have k2 : w5.cell? ⟨wr.heap.size, 2, none⟩ = some (.int .i64 c) := (hb5.cell (p := ⟨wr.heap.size, 2, none⟩) (by simp)).trans (by rw [cell_of_row _ _ 2 _ _ _ (heap_alloc_new wr _)]; rfl); clear hb5))
              go_quiet (fail)
              go_wp2
              go_roundw
              case rel => exact ⟨k + 1, p, q + c, by omega, rfl, by go_num, by go_num, by omega, by omega, by omega, by omega, HT.out, bel_drewN (hbr.trans (HB5.out.mono hsz)) _⟩
              case measure => simp [intOf]; omega
            | false =>
              have HT : Hid (listB ⟨g, nx, fl, sn, sq, L⟩ = false) := by show _ = _; rw [HL.out, HFT.out, HST.out, if_neg (fun h => by rw [h3] at h; exact absurd h.2.2.2 (by simp))]
              have HE : Hid (endB ⟨p, q, c, f⟩ act = false) := h3
              have HX : Hid (x + 1 ≤ p ∧ p ≤ nx - 1) := h1
              clear h3 HFT HST h1
              go_wp2_with (first
                | (go_at_call 41; refine (mwithin_yes (x + 1) p (nx - 1) _ HX.out.1 HX.out.2).mono ?_; rintro _ _ ⟨rfl, rfl⟩)
                | (go_at_call 42; refine (mrend_any ⟨p, q, c, f⟩ act _).mono ?_; rw [HE.out]; rintro _ w5 ⟨rfl, hb5⟩; have HB5 : Hid (Below wr.heap.size wr w5) := ((Below.refl _ _).alloc (Nat.le_refl _) _).trans (hb5.mono (by simp)); clear hb5))
              go_ret
              exact ⟨by rw [HT.out]; rfl, HBW.out.trans (HB5.out.mono (Nat.le_of_lt hlw))⟩
          · have HT : Hid (listB ⟨g, nx, fl, sn, sq, L⟩ = false) := by show _ = _; rw [HL.out, HFT.out, HST.out, if_neg (fun h => h2 h.2.2.1)]
            have hqq : (q != y) = true := by simp; exact h2
            have HX : Hid (x + 1 ≤ p ∧ p ≤ nx - 1) := h1
            clear h2 HFT HST h1
            go_wp2_with (go_at_call 41; refine (mwithin_yes (x + 1) p (nx - 1) _ HX.out.1 HX.out.2).mono ?_; rintro _ _ ⟨rfl, rfl⟩)
            go_ret
            exact ⟨by rw [HT.out]; rfl, HBW.out.alloc (Nat.le_of_lt hlw) _⟩
        · have HT : Hid (listB ⟨g, nx, fl, sn, sq, L⟩ = false) := by show _ = _; rw [HL.out, HFT.out, HST.out, if_neg (fun h => h1 ⟨h.1, h.2.1⟩)]
          have HX : Hid (¬ (x + 1 ≤ p ∧ p ≤ nx - 1)) := h1
          clear HFT HST h1
          go_wp2_with (go_at_call 41; refine (mwithin_no (x + 1) p (nx - 1) _ HX.out).mono ?_; rintro _ _ ⟨rfl, rfl⟩)
          go_ret
          exact ⟨by rw [HT.out]; rfl, HBW.out.alloc (Nat.le_of_lt hlw) _⟩
      · obtain rfl : n = k := by omega
        have HT : Hid (listB ⟨g, nx, fl, sn, sq, L⟩ = true) := by show _ = _; rw [HL.out, HFT.out, List.drop_of_length_le (by rw [HS.out.1]; exact Nat.le_refl _)]; rfl
        go_wp2
        go_ret
        exact ⟨by rw [HT.out]; rfl, HBW.out⟩
  · have HL : Hid (listB ⟨g, nx, fl, sn, sq, L⟩ = false) := by show _ = _; unfold listB; simp only; rw [hn, if_neg hr]
    have HR : Hid (¬ ((1 : Int) ≤ (n : Int) ∧ (n : Int) ≤ 256)) := by show ¬ _; omega
    clear hn hS hl hH hr
    simp only [MfV]
    go_enter Tryd.func26, Tryd.ntmps26
    go_wp2_with (go_at_call 41; refine (mwithin_no 1 (n : Int) 256 _ HR.out).mono ?_; rintro _ _ ⟨rfl, rfl⟩)
    go_ret
    exact ⟨by rw [HL.out]; rfl, (Below.refl _ _).alloc (Nat.le_refl _) _⟩
set_option maxRecDepth 20000 in
set_option maxHeartbeats 2000000 in
theorem mvalid_any (m : Mf) (n : Nat) (a : Option Addr) (cap : Nat) (w : World) (hn : m.segs.length = n) (hS : Sms w a m.segs) (hl : n ≤ maxLen) :
    Calls Tryd.prog 8 #[MfV m (.slice a n cap)] w fun e w' => e = .returned (.bool (mvB m)) ∧ Below w.heap.size w w' := by
  have HS : Hid (m.segs.length = n ∧ Sms w a m.segs ∧ n ≤ maxLen) := ⟨hn, hS, hl⟩
  have HM : Hid (MfAt (w.alloc (.cells (mfA m (.slice a n cap)) 24)) w.heap.size m (.slice a n cap)) := MfAt.new w m _
  have HB0 : Hid (Below w.heap.size w (w.alloc (.cells (mfA m (.slice a n cap)) 24))) := (Below.refl _ _).alloc (Nat.le_refl _) _
  have HV : Hid (mvB m = (headB m && listB m)) := rfl
  clear hn hS hl
  cases hH : headB m with
  | true =>
    have HH : Hid (headB m = true) := hH
    have HV2 : Hid (mvB m = listB m) := by show _ = _; rw [HV.out, hH]; rfl
    cases hLB : listB m with
    | true =>
      have HLB : Hid (listB m = true) := hLB
      clear hH hLB
      go_enter Tryd.func8, Tryd.ntmps8
      go_wp2_with (first
        | ((with_reducible refine frm_load 24 ?_); refine wpList_load_mf rfl _ rfl HM.out rfl ?_)
        | (go_at_call 25; refine (mrhead_any m _ rfl _).mono ?_; rw [HH.out]; rintro _ w1 ⟨rfl, hb1⟩; have HM1 : Hid (MfAt w1 w.heap.size m (.slice a n cap)) := HM.out.after hb1; have HB1 : Hid (Below w.heap.size w w1) := below_next HB0.out hb1; clear hb1)
        | ((with_reducible refine mf_loadg 24 ?_); refine wpList_load_mfg rfl _ rfl HM1.out rfl ?_)
        | (go_at_call 26; refine (mrsegs_any m n a cap _ HS.out.1 (HS.out.2.1.keep HB1.out) HS.out.2.2 HH.out).mono ?_; rw [HLB.out]; rintro _ w2 ⟨rfl, hb2⟩; have HB2 : Hid (Below w.heap.size w w2) := below_next HB1.out hb2; clear hb2))
      go_ret
      exact ⟨by rw [HV2.out, HLB.out]; rfl, HB2.out⟩
    | false =>
      have HLB : Hid (listB m = false) := hLB
      clear hH hLB
      go_enter Tryd.func8, Tryd.ntmps8
      go_wp2_with (first
        | ((with_reducible refine frm_load 24 ?_); refine wpList_load_mf rfl _ rfl HM.out rfl ?_)
        | (go_at_call 25; refine (mrhead_any m _ rfl _).mono ?_; rw [HH.out]; rintro _ w1 ⟨rfl, hb1⟩; have HM1 : Hid (MfAt w1 w.heap.size m (.slice a n cap)) := HM.out.after hb1; have HB1 : Hid (Below w.heap.size w w1) := below_next HB0.out hb1; clear hb1)
        | ((with_reducible refine mf_loadg 24 ?_); refine wpList_load_mfg rfl _ rfl HM1.out rfl ?_)
        | (go_at_call 26; refine (mrsegs_any m n a cap _ HS.out.1 (HS.out.2.1.keep HB1.out) HS.out.2.2 HH.out).mono ?_; rw [HLB.out]; rintro _ w2 ⟨rfl, hb2⟩; have HB2 : Hid (Below w.heap.size w w2) := below_next HB1.out hb2; clear hb2))
      go_ret
      exact ⟨by rw [HV2.out, HLB.out]; rfl, HB2.out⟩
  | false =>
    have HH : Hid (headB m = false) := hH
    have HV2 : Hid (mvB m = false) := by show _ = _; rw [HV.out, hH]; rfl
    clear hH
    go_enter Tryd.func8, Tryd.ntmps8
    go_wp2_with (first
      | ((with_reducible refine frm_load 24 ?_); refine wpList_load_mf rfl _ rfl HM.out rfl ?_)
      | (go_at_call 25; refine (mrhead_any m _ rfl _).mono ?_; rw [HH.out]; rintro _ w1 ⟨rfl, hb1⟩; have HB1 : Hid (Below w.heap.size w w1) := below_next HB0.out hb1; clear hb1))
    go_ret
    exact ⟨by rw [HV2.out]; rfl, HB1.out⟩
end Go.Proofs.YtnfkdgjgglnniaaDoor
