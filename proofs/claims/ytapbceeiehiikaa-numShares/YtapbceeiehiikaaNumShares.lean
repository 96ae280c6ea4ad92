/- Share answers as the reference does; the weights stay as they were; the answer is new memory. -/
import Derived.Test.YtapbceeiehiikaaNsv
import Derived.SizedLaws
import Derived.ChangeOld
import Derived.Laws.AppendOwnNone
import Derived.Deep.RegionWith
import Derived.Deep.DeepCutAuto
namespace Go.Proofs.Ytapbceeiehiikaa.numShares
open Go.ChangeShapes Go.WideShapes Go.ChangeAt Go.RowKit Go.Sort
set_option linter.unusedVariables false
theorem litI (w : World) : OwnI (w.alloc (.cells #[] 2)) w.heap.size (.slice (some ⟨w.heap.size, 0, none⟩) 0 0) [] :=
  ⟨by simp, World.ownsRow_lit w #[] 0 (Nat.le_refl _) (by simp) rfl⟩
set_option maxRecDepth 20000 in
set_option maxHeartbeats 8000000 in
theorem walk_some (t : Int) (l : List Int) (n : Nat) (x : Addr) (cap : Nat) (w : World) (HT : Hid (inI t)) (HN : Hid (l.length = n)) (HI : Hid (Ints w (some x) l)) (hf : n ≤ cap) (hr : cap * 8 ≤ 140737488351232) :
    Calls Try.prog 3 #[.int .i64 t, .slice (some x) n cap] w fun e w' => e = .returned (.bool true) ∧ Below w.heap.size w w' := by
  obtain ⟨i0, hi, hz0, hz1, hz2⟩ := info_parts Try.infoI
  have hnI : (n : Int) ≤ 17592186044416 := by omega
  have HM : Hid (n ≤ maxLen) := by show _ ≤ _; unfold maxLen; omega
  obtain ⟨P, eP⟩ : ∃ P, P = parts t l n := ⟨_, rfl⟩
  have HSH : Hid (∀ (a : Option Addr) (cap : Nat) (w : World), Ints w a l → Calls Try.prog 8 #[.int .i64 t, .slice a n cap] w fun e w' => ∃ v, e = .returned (.tuple #[v, .bool (shB t l)]) ∧ Below w.heap.size w w' ∧ NewI w.heap.size w' v P) := fun a cap w h => by rw [eP]; exact share_new t l n a cap w HT.out h HN.out
  have HRS : Hid (∀ (a : Option Addr) (cap : Nat) (w : World), Ints w a l → Calls Try.prog 7 #[.int .i64 t, .slice a n cap] w fun e w' => ∃ v, e = .returned (.tuple #[v, .bool (shB t l)]) ∧ Below w.heap.size w w' ∧ NewI w.heap.size w' v P) := fun a cap w h => by rw [eP]; exact rshare_new t l n a cap w HT.out h HN.out
  have HPM : Hid (P.length ≤ maxLen) := by
    show P.length ≤ maxLen
    rw [eP]; unfold parts; split
    · rw [shpL_len]; exact HM.out
    · exact Nat.zero_le _
  obtain ⟨np, hnp⟩ : ∃ np, P.length = np := ⟨_, rfl⟩
  have HNP : Hid (P.length = np) := hnp
  have hnpM : (np : Int) ≤ 9223372036854775807 := by have := HPM.out; unfold maxLen at this; omega
  obtain ⟨sb, hsb⟩ : ∃ sb, shB t l = sb := ⟨_, rfl⟩
  rw [hsb] at HSH HRS
  clear eP hnp hsb
  go_enter Try.func3, Try.ntmps3
  go_upto_region 7 with (first
    | (go_at_call 6; refine (shares_any w).mono ?_; rintro e w2 ⟨rfl, hb2⟩; have HB2 : Hid (Below w.heap.size w w2) := hb2; clear hb2)
    | (at_builtin; refine wpList_append_own _ rfl _ _ 22 rfl w2.heap.size 2 i0 (.int .i64 0) 1 8 Try.underlying22 hi hz0 hz1 hz2 rfl (by decide) _ _ _ rfl (litI w2).2 x n cap (BI l) rfl (by rw [BI_length, HN.out]) (ints_cells ((HI.out.keep HB2.out).keep (bal (Below.refl _ _) _))) (BI_one l) (by unfold maxLen; simp; try omega) (by simp; try omega) (by simp) ?_; intro v3 w3 ho3 hg3 _; have hb3 : Below w2.heap.size w2 w3 := ((Below.refl w2.heap.size w2).alloc (Nat.le_refl _) _).grown hg3 (by simp) (fun k hk => by cases hk; exact Nat.le_refl _); have HOV0 : OwnI w3 w2.heap.size v3 l := ⟨(HI.out.keep HB2.out).1, by rw [HN.out]; simpa [BI] using ho3⟩; obtain ⟨a3, cap3, ev3, hc3, hm3, hnm3⟩ := HOV0.shape; subst ev3; have HOV : Hid (OwnI w3 w2.heap.size (.slice a3 l.length cap3) l) := HOV0; clear HOV0; have HOWN : Hid (OwnI w3 w2.heap.size (.slice a3 l.length cap3) l) := HOV.out; clear ho3 hg3; rw [HN.out]; have HB3 : Hid (Below w.heap.size w w3) := bnx HB2.out hb3; have HI3 : Hid (Ints w3 a3 l) := hnm3; have hmn := NewI.own HOWN.out; rw [HN.out] at hmn; have HMN0 : Hid (NewI w2.heap.size w3 (.slice a3 n cap3) l) := hmn; clear hmn; clear hb3 hnm3 hc3 hm3)
    | (go_at_call 7; refine (HRS.out _ _ w3 (HI.out.keep HB3.out)).mono ?_; rintro e w4 ⟨vx, rfl, hb4, ax, cx, rfl, hix, hx4⟩; rw [HNP.out]; have HB4 : Hid (Below w.heap.size w w4) := bnx HB3.out hb4; have HX4 : Hid (NewI w3.heap.size w4 (.slice ax P.length cx) P) := ⟨ax, cx, rfl, hix, hx4⟩; have HM4 : Hid (NewI w2.heap.size w4 (.slice a3 n cap3) l ∧ Ints w4 a3 l) := ⟨HMN0.out.keep hb4, HI3.out.keep hb4⟩; have HS34 : Hid (w3.heap.size ≤ w4.heap.size) := hb4.size; clear hb4 hix hx4)
    | (go_at_call 8; refine (HSH.out _ _ w4 HM4.out.2).mono ?_; rintro e w5 ⟨vy, rfl, hb5, ay, cy, rfl, hiy, hy5⟩; rw [HNP.out]; have HB5 : Hid (Below w.heap.size w w5) := bnx HB4.out hb5; have HX5 : Hid (NewI w3.heap.size w5 (.slice ax P.length cx) P) := HX4.out.keep hb5; have HY5 : Hid (NewI w4.heap.size w5 (.slice ay P.length cy) P) := ⟨ay, cy, rfl, hiy, hy5⟩; have HM5 : Hid (NewI w2.heap.size w5 (.slice a3 n cap3) l ∧ Ints w5 a3 l) := ⟨HM4.out.1.keep hb5, HM4.out.2.keep hb5⟩; have HS45 : Hid (w4.heap.size ≤ w5.heap.size) := hb5.size; clear hb5 hiy hy5)
    | (go_at_call 8; refine (HSH.out _ _ w5 HM5.out.2).mono ?_; rintro e w6 ⟨vz, rfl, hb6, az, cz, rfl, hiz, hz6⟩; rw [HNP.out]; have HB6 : Hid (Below w.heap.size w w6) := bnx HB5.out hb6; have HX6 : Hid (NewI w3.heap.size w6 (.slice ax P.length cx) P) := HX5.out.keep hb6; have HY6 : Hid (NewI w4.heap.size w6 (.slice ay P.length cy) P) := HY5.out.keep hb6; have HZ6 : Hid (NewI w5.heap.size w6 (.slice az P.length cz) P) := ⟨az, cz, rfl, hiz, hz6⟩; have HM6 : Hid (NewI w2.heap.size w6 (.slice a3 n cap3) l ∧ Ints w6 a3 l) := ⟨HM5.out.1.keep hb6, HM5.out.2.keep hb6⟩; clear hb6 hiz hz6))
  have hsame : (sb != sb) = false := by simp
  have hx8 := HX6.out.ints
  have hy8 := HY6.out.ints
  have HXY : Hid (Ints w6 ax P ∧ Ints w6 ay P) := ⟨hx8, hy8⟩
  clear hx8 hy8
  go_upto_region 9 with (first
    | (go_at_call_of 9 (ax); refine (sameI_at P P np np ax ay _ _ w6 HNP.out HNP.out HXY.out.1 HXY.out.2 HPM.out HPM.out).mono ?_; rw [decide_eq_true (rfl : P = P)]; rintro e w7 ⟨rfl, q7, hw7⟩; have hb7 := below_drewN (Below.refl w6.heap.size w6) q7; rw [← hw7] at hb7; have HB7 : Hid (Below w6.heap.size w6 w7) := hb7; clear hw7 hb7)
    | (go_at_call 9; refine (sameI_at l l n n _ _ _ _ w7 HN.out HN.out (HM6.out.2.keep HB7.out) (HI.out.keep (HB6.out.trans (HB7.out.mono HB6.out.size))) (by rw [HN.out]; exact HM.out) (by rw [HN.out]; exact HM.out)).mono ?_; rw [decide_eq_true (rfl : l = l)]; rintro e w8 ⟨rfl, q8, hw8⟩; have hb78 := below_drewN HB7.out q8; rw [← hw8] at hb78; have HB78 : Hid (Below w6.heap.size w6 w8) := hb78; clear hw8 hb78))
  have hb8 := HB78.out
  have HB8 : Hid (Below w.heap.size w w8) := HB6.out.trans (hb8.mono HB6.out.size)
  have hs6 : w6.heap.size ≤ w8.heap.size := hb8.size
  have hX := HX6.out.keep hb8
  have hY := HY6.out.keep hb8
  have hZ := HZ6.out.keep hb8
  have hM := HM6.out.1.keep hb8
  obtain ⟨gx, bx1, bx2⟩ := hX.block
  obtain ⟨gy, by1, by2⟩ := hY.block
  obtain ⟨gz, bz1, bz2⟩ := hZ.block
  obtain ⟨gm, bm1, bm2⟩ := hM.block
  have HLT : Hid ((np = 0 ∨ (gx < w4.heap.size ∧ gy < w5.heap.size)) ∧ (n = 0 ∨ gm < w3.heap.size)) := by
    constructor
    · by_cases h0 : np = 0
      · exact .inl h0
      · right
        have h1 : P.length ≠ 0 := by rw [HNP.out]; exact h0
        obtain ⟨gx2, _, hx2⟩ := HX4.out.block
        obtain ⟨gy2, _, hy2⟩ := HY5.out.block
        have e1 := (bx2.resolve_left h1).1.symm.trans (hx2.resolve_left h1).1
        have e2 := (by2.resolve_left h1).1.symm.trans (hy2.resolve_left h1).1
        cases e1; cases e2
        exact ⟨(hx2.resolve_left h1).2.lt, (hy2.resolve_left h1).2.lt⟩
    · by_cases h0 : n = 0
      · exact .inl h0
      · right
        have h1 : l.length ≠ 0 := by rw [HN.out]; first | exact h0 | exact absurd trivial h0
        obtain ⟨gm2, _, hm2⟩ := HMN0.out.block
        have e1 := (bm2.resolve_left h1).1.symm.trans (hm2.resolve_left h1).1
        cases e1
        exact (hm2.resolve_left h1).2.lt
  rw [HNP.out] at bx2 by2 bz2
  rw [HN.out] at bm2
  have hs34 := HS34.out
  have hs45 := HS45.out
  have hsw2 := HB2.out.size
  have hsw3 := HB3.out.size
  have HG : Hid (w3.heap.size ≤ gx ∧ w4.heap.size ≤ gy ∧ w5.heap.size ≤ gz ∧ w2.heap.size ≤ gm ∧ w3.heap.size ≤ w4.heap.size ∧ w4.heap.size ≤ w5.heap.size ∧ w.heap.size ≤ w2.heap.size ∧ w.heap.size ≤ w3.heap.size) := ⟨bx1, by1, bz1, bm1, hs34, hs45, hsw2, hsw3⟩
  have HZX : Hid (Ints w8 az P ∧ Ints w8 ax P) := ⟨hZ.ints, hX.ints⟩
  have HXB : Hid (np = 0 ∨ ax = some ⟨gx, 0, none⟩) := bx2.imp id And.left
  have HZB : Hid (np = 0 ∨ az = some ⟨gz, 0, none⟩) := bz2.imp id And.left
  have HYB : Hid (np = 0 ∨ (ay = some ⟨gy, 0, none⟩ ∧ RowF (.int .i64) w8 gy np (fun i => P.getD i 0))) := by2
  have HMB : Hid (n = 0 ∨ (a3 = some ⟨gm, 0, none⟩ ∧ RowF (.int .i64) w8 gm n (fun i => l.getD i 0))) := bm2.imp (fun h => by first | exact h | trivial) id
  clear hX hY hZ hM bx1 bx2 by1 by2 bz1 bz2 bm1 bm2 hs34 hs45 hsw2 hsw3 hs6 hb8 HX4 HY5 HX5 HX6 HY6 HZ6 HM4 HM5 HM6 HXY HB2 HB3 HB4 HB5 HB6 HSH HRS HMN0
  go_wp2
  go_loopw [54] (fun vi wr => ∃ k : Nat, k ≤ np ∧ vi = .int .i64 k ∧ Hid ((np = 0 ∨ ∃ G, RowF (.int .i64) wr gy np G) ∧ (∀ q, q ≠ gy → wr.heap[q]? = w8.heap[q]?) ∧ w8.heap.size ≤ wr.heap.size ∧ Below w.heap.size w wr)) (fun vi _ => np - (intOf vi).toNat)
  case atStart => exact ⟨0, Nat.zero_le _, rfl, ⟨HYB.out.imp id (fun h => ⟨_, h.2⟩), fun _ _ => rfl, Nat.le_refl _, HB8.out⟩⟩
  case round =>
    obtain ⟨k, hk, rfl, HQ⟩ := hrel
    by_cases hkn : k < np
    · have hay : ay = some ⟨gy, 0, none⟩ := (HYB.out.resolve_left (by omega)).1
      obtain ⟨G, hG⟩ := HQ.out.1.resolve_left (by omega)
      have HGR : Hid (RowF (.int .i64) wr gy np G) := hG
      have c0 := hG.cell k hkn
      have f0 := hG.free k hkn
      have hkz : (k : Int) < (np : Int) := by omega
      subst hay
      clear hG
      go_wp2
      go_roundw
      case rel =>
        refine ⟨k + 1, by omega, by go_num, ⟨.inr ⟨_, HGR.out.set k (-7) hkn⟩, fun q hq => (heap_set_other _ _ _ _ hq).trans (HQ.out.2.1 q hq), by have := HQ.out.2.2.1; simpa [World.setCell] using this, HQ.out.2.2.2.setCell (by have := HG.out; show _ ≤ gy; omega) _⟩⟩
      case measure => first | (simp [intOf]; done) | (simp [intOf]; omega)
    · obtain rfl : k = np := by omega
      have HW1 : Hid ((∀ q, q ≠ gy → wr.heap[q]? = w8.heap[q]?) ∧ w8.heap.size ≤ wr.heap.size ∧ Below w.heap.size w wr) := HQ.out.2
      clear HQ
      have HMG : Hid (n = 0 ∨ ∃ G, RowF (.int .i64) wr gm n G) := by
        rcases HMB.out with h | ⟨_, h⟩
        · exact .inl h
        · by_cases h0 : n = 0
          · exact .inl h0
          · first | exact absurd trivial h0 | exact .inr ⟨_, h.same HW1.out.2.1 (HW1.out.1 gm (by have h1 := HLT.out.2; have h2 := HG.out; omega))⟩
      go_wp2
      obtain ⟨w9, hw9⟩ : ∃ w9, w9 = wr := ⟨_, rfl⟩
      subst hw9
      go_loopw [63] (fun vi wx => ∃ j : Nat, j ≤ n ∧ vi = .int .i64 j ∧ Hid ((n = 0 ∨ ∃ G, RowF (.int .i64) wx gm n G) ∧ (∀ q, (q ≠ gm ∨ n = 0) → wx.heap[q]? = w9.heap[q]?) ∧ w9.heap.size ≤ wx.heap.size ∧ Below w.heap.size w wx)) (fun vi _ => n - (intOf vi).toNat)
      case atStart => exact ⟨0, Nat.zero_le _, rfl, ⟨HMG.out, fun _ _ => rfl, Nat.le_refl _, HW1.out.2.2⟩⟩
      case round =>
        obtain ⟨j, hj, rfl, HQ⟩ := hrel
        by_cases hjn : j < n
        · have ham : a3 = some ⟨gm, 0, none⟩ := (HMB.out.resolve_left (by omega)).1
          obtain ⟨G, hG⟩ := HQ.out.1.resolve_left (by omega)
          have HGR : Hid (RowF (.int .i64) wr gm n G) := hG
          have c0 := hG.cell j hjn
          have f0 := hG.free j hjn
          have hjz : (j : Int) < (n : Int) := by omega
          subst ham
          clear hG
          go_wp2
          go_roundw
          case rel =>
            refine ⟨j + 1, by omega, by go_num, ⟨.inr ⟨_, HGR.out.set j (-9) hjn⟩, fun q hq => (heap_set_other _ _ _ _ (hq.resolve_right (by omega))).trans (HQ.out.2.1 q hq), by have := HQ.out.2.2.1; simpa [World.setCell] using this, HQ.out.2.2.2.setCell (by have := HG.out; show _ ≤ gm; omega) _⟩⟩
          case measure => first | (simp [intOf]; done) | (simp [intOf]; omega)
        · obtain rfl : j = n := by omega
          have HFIN : Hid (Ints wr az P ∧ Ints wr ax P) := by
            by_cases h0 : k = 0
            · exact ⟨ints_void _ _ (by rw [HNP.out]; exact h0), ints_void _ _ (by rw [HNP.out]; exact h0)⟩
            · have ez := HZB.out.resolve_left h0
              have ex := HXB.out.resolve_left h0
              have hl := HLT.out.1.resolve_left h0
              have hg := HG.out
              have hm : gm ≠ gz ∧ gm ≠ gx ∨ j = 0 := by
                rcases HLT.out.2 with h | h
                · exact .inr h
                · exact .inl ⟨by omega, by omega⟩
              have hzx := HZX.out
              rw [ez, ex] at hzx ⊢
              have hq0 : ∀ q, q ≠ gy → (q ≠ gm ∨ j = 0) → wr.heap[q]? = w8.heap[q]? := fun q h1 h2 => (HQ.out.2.1 q h2).trans (HW1.out.1 q h1)
              have hsz : w8.heap.size ≤ wr.heap.size := Nat.le_trans HW1.out.2.1 HQ.out.2.2.1
              have hg1 : gz ≠ gm ∨ j = 0 := hm.imp (fun h e => h.1 e.symm) id
              have hg2 : gx ≠ gm ∨ j = 0 := hm.imp (fun h e => h.2 e.symm) id
              exact ⟨hzx.1.same hsz (hq0 gz (by omega) hg1), hzx.2.same hsz (hq0 gx (by omega) hg2)⟩
          clear HZX HXB HZB HYB HMB
          go_wp2_with (first
            | (go_at_call 9; refine (sameI_at P P k k az ax _ _ wr HNP.out HNP.out HFIN.out.1 HFIN.out.2 HPM.out HPM.out).mono ?_; rw [decide_eq_true (rfl : P = P)]; rintro e w10 ⟨rfl, q10, rfl⟩))
          go_ret
          exact ⟨ret_bool (by simp), below_drewN HQ.out.2.2.2 q10⟩
set_option maxRecDepth 20000 in
set_option maxHeartbeats 8000000 in
theorem walk_none (t : Int) (l : List Int) (w : World) (HT : Hid (inI t)) (HN0 : Hid (l = [])) (HI : Hid (Ints w none l)) :
    Calls Try.prog 3 #[.int .i64 t, .slice none 0 0] w fun e w' => e = .returned (.bool true) ∧ Below w.heap.size w w' := by
  obtain ⟨i0, hi, hz0, hz1, hz2⟩ := info_parts Try.infoI
  have HN : Hid (l.length = 0) := by rw [HN0.out]; rfl
  have HM : Hid (0 ≤ maxLen) := Nat.zero_le _
  obtain ⟨P, eP⟩ : ∃ P, P = parts t l 0 := ⟨_, rfl⟩
  have HSH : Hid (∀ (a : Option Addr) (cap : Nat) (w : World), Ints w a l → Calls Try.prog 8 #[.int .i64 t, .slice a 0 cap] w fun e w' => ∃ v, e = .returned (.tuple #[v, .bool (shB t l)]) ∧ Below w.heap.size w w' ∧ NewI w.heap.size w' v P) := fun a cap w h => by rw [eP]; exact share_new t l 0 a cap w HT.out h HN.out
  have HRS : Hid (∀ (a : Option Addr) (cap : Nat) (w : World), Ints w a l → Calls Try.prog 7 #[.int .i64 t, .slice a 0 cap] w fun e w' => ∃ v, e = .returned (.tuple #[v, .bool (shB t l)]) ∧ Below w.heap.size w w' ∧ NewI w.heap.size w' v P) := fun a cap w h => by rw [eP]; exact rshare_new t l 0 a cap w HT.out h HN.out
  have HPM : Hid (P.length ≤ maxLen) := by
    show P.length ≤ maxLen
    rw [eP]; unfold parts; split
    · rw [shpL_len]; exact HM.out
    · exact Nat.zero_le _
  obtain ⟨np, hnp⟩ : ∃ np, P.length = np := ⟨_, rfl⟩
  have HNP : Hid (P.length = np) := hnp
  have hnpM : (np : Int) ≤ 9223372036854775807 := by have := HPM.out; unfold maxLen at this; omega
  obtain ⟨sb, hsb⟩ : ∃ sb, shB t l = sb := ⟨_, rfl⟩
  rw [hsb] at HSH HRS
  clear eP hnp hsb
  go_enter Try.func3, Try.ntmps3
  go_upto_region 7 with (first
    | (go_at_call 6; refine (shares_any w).mono ?_; rintro e w2 ⟨rfl, hb2⟩; have HB2 : Hid (Below w.heap.size w w2) := hb2; clear hb2)
    | (at_builtin; refine wpList_append_own_none rfl _ _ 22 rfl w2.heap.size 2 i0 1 Try.underlying22 hi _ _ _ rfl (litI w2).2 rfl ?_; obtain ⟨w3, hw3⟩ : ∃ w3, w3 = w2.alloc (.cells #[] 2) := ⟨_, rfl⟩; rw [← hw3]; have HB3 : Hid (Below w.heap.size w w3) := (by rw [hw3]; exact bnx HB2.out ((Below.refl w2.heap.size w2).alloc (Nat.le_refl _) _)); clear hw3; obtain ⟨a3, ha3⟩ : ∃ a3 : Option Addr, a3 = some ⟨w2.heap.size, 0, none⟩ := ⟨_, rfl⟩; rw [← ha3]; have HI3 : Hid (Ints w3 a3 l) := ⟨by rw [HN0.out]; simp, .inl HN0.out⟩; have HMN0 : Hid (NewI w2.heap.size w3 (.slice a3 0 0) l) := ⟨a3, 0, by rw [HN.out], HI3.out, .inl HN0.out⟩; clear ha3)
    | (go_at_call 7; refine (HRS.out _ _ w3 (HI.out.keep HB3.out)).mono ?_; rintro e w4 ⟨vx, rfl, hb4, ax, cx, rfl, hix, hx4⟩; rw [HNP.out]; have HB4 : Hid (Below w.heap.size w w4) := bnx HB3.out hb4; have HX4 : Hid (NewI w3.heap.size w4 (.slice ax P.length cx) P) := ⟨ax, cx, rfl, hix, hx4⟩; have HM4 : Hid (NewI w2.heap.size w4 (.slice a3 0 0) l ∧ Ints w4 a3 l) := ⟨HMN0.out.keep hb4, HI3.out.keep hb4⟩; have HS34 : Hid (w3.heap.size ≤ w4.heap.size) := hb4.size; clear hb4 hix hx4)
    | (go_at_call 8; refine (HSH.out _ _ w4 HM4.out.2).mono ?_; rintro e w5 ⟨vy, rfl, hb5, ay, cy, rfl, hiy, hy5⟩; rw [HNP.out]; have HB5 : Hid (Below w.heap.size w w5) := bnx HB4.out hb5; have HX5 : Hid (NewI w3.heap.size w5 (.slice ax P.length cx) P) := HX4.out.keep hb5; have HY5 : Hid (NewI w4.heap.size w5 (.slice ay P.length cy) P) := ⟨ay, cy, rfl, hiy, hy5⟩; have HM5 : Hid (NewI w2.heap.size w5 (.slice a3 0 0) l ∧ Ints w5 a3 l) := ⟨HM4.out.1.keep hb5, HM4.out.2.keep hb5⟩; have HS45 : Hid (w4.heap.size ≤ w5.heap.size) := hb5.size; clear hb5 hiy hy5)
    | (go_at_call 8; refine (HSH.out _ _ w5 HM5.out.2).mono ?_; rintro e w6 ⟨vz, rfl, hb6, az, cz, rfl, hiz, hz6⟩; rw [HNP.out]; have HB6 : Hid (Below w.heap.size w w6) := bnx HB5.out hb6; have HX6 : Hid (NewI w3.heap.size w6 (.slice ax P.length cx) P) := HX5.out.keep hb6; have HY6 : Hid (NewI w4.heap.size w6 (.slice ay P.length cy) P) := HY5.out.keep hb6; have HZ6 : Hid (NewI w5.heap.size w6 (.slice az P.length cz) P) := ⟨az, cz, rfl, hiz, hz6⟩; have HM6 : Hid (NewI w2.heap.size w6 (.slice a3 0 0) l ∧ Ints w6 a3 l) := ⟨HM5.out.1.keep hb6, HM5.out.2.keep hb6⟩; clear hb6 hiz hz6))
  have hsame : (sb != sb) = false := by simp
  have hx8 := HX6.out.ints
  have hy8 := HY6.out.ints
  have HXY : Hid (Ints w6 ax P ∧ Ints w6 ay P) := ⟨hx8, hy8⟩
  clear hx8 hy8
  go_upto_region 9 with (first
    | (go_at_call_of 9 (ax); refine (sameI_at P P np np ax ay _ _ w6 HNP.out HNP.out HXY.out.1 HXY.out.2 HPM.out HPM.out).mono ?_; rw [decide_eq_true (rfl : P = P)]; rintro e w7 ⟨rfl, q7, hw7⟩; have hb7 := below_drewN (Below.refl w6.heap.size w6) q7; rw [← hw7] at hb7; have HB7 : Hid (Below w6.heap.size w6 w7) := hb7; clear hw7 hb7)
    | (go_at_call 9; refine (sameI_at l l 0 0 _ _ _ _ w7 HN.out HN.out (HM6.out.2.keep HB7.out) (HI.out.keep (HB6.out.trans (HB7.out.mono HB6.out.size))) (by rw [HN.out]; exact HM.out) (by rw [HN.out]; exact HM.out)).mono ?_; rw [decide_eq_true (rfl : l = l)]; rintro e w8 ⟨rfl, q8, hw8⟩; have hb78 := below_drewN HB7.out q8; rw [← hw8] at hb78; have HB78 : Hid (Below w6.heap.size w6 w8) := hb78; clear hw8 hb78))
  have hb8 := HB78.out
  have HB8 : Hid (Below w.heap.size w w8) := HB6.out.trans (hb8.mono HB6.out.size)
  have hs6 : w6.heap.size ≤ w8.heap.size := hb8.size
  have hX := HX6.out.keep hb8
  have hY := HY6.out.keep hb8
  have hZ := HZ6.out.keep hb8
  have hM := HM6.out.1.keep hb8
  obtain ⟨gx, bx1, bx2⟩ := hX.block
  obtain ⟨gy, by1, by2⟩ := hY.block
  obtain ⟨gz, bz1, bz2⟩ := hZ.block
  obtain ⟨gm, bm1, bm2⟩ := hM.block
  have HLT : Hid ((np = 0 ∨ (gx < w4.heap.size ∧ gy < w5.heap.size)) ∧ (True ∨ gm < w3.heap.size)) := by
    constructor
    · by_cases h0 : np = 0
      · exact .inl h0
      · right
        have h1 : P.length ≠ 0 := by rw [HNP.out]; exact h0
        obtain ⟨gx2, _, hx2⟩ := HX4.out.block
        obtain ⟨gy2, _, hy2⟩ := HY5.out.block
        have e1 := (bx2.resolve_left h1).1.symm.trans (hx2.resolve_left h1).1
        have e2 := (by2.resolve_left h1).1.symm.trans (hy2.resolve_left h1).1
        cases e1; cases e2
        exact ⟨(hx2.resolve_left h1).2.lt, (hy2.resolve_left h1).2.lt⟩
    · by_cases h0 : True
      · exact .inl h0
      · right
        have h1 : l.length ≠ 0 := by rw [HN.out]; first | exact h0 | exact absurd trivial h0
        obtain ⟨gm2, _, hm2⟩ := HMN0.out.block
        have e1 := (bm2.resolve_left h1).1.symm.trans (hm2.resolve_left h1).1
        cases e1
        exact (hm2.resolve_left h1).2.lt
  rw [HNP.out] at bx2 by2 bz2
  rw [HN.out] at bm2
  have hs34 := HS34.out
  have hs45 := HS45.out
  have hsw2 := HB2.out.size
  have hsw3 := HB3.out.size
  have HG : Hid (w3.heap.size ≤ gx ∧ w4.heap.size ≤ gy ∧ w5.heap.size ≤ gz ∧ w2.heap.size ≤ gm ∧ w3.heap.size ≤ w4.heap.size ∧ w4.heap.size ≤ w5.heap.size ∧ w.heap.size ≤ w2.heap.size ∧ w.heap.size ≤ w3.heap.size) := ⟨bx1, by1, bz1, bm1, hs34, hs45, hsw2, hsw3⟩
  have HZX : Hid (Ints w8 az P ∧ Ints w8 ax P) := ⟨hZ.ints, hX.ints⟩
  have HXB : Hid (np = 0 ∨ ax = some ⟨gx, 0, none⟩) := bx2.imp id And.left
  have HZB : Hid (np = 0 ∨ az = some ⟨gz, 0, none⟩) := bz2.imp id And.left
  have HYB : Hid (np = 0 ∨ (ay = some ⟨gy, 0, none⟩ ∧ RowF (.int .i64) w8 gy np (fun i => P.getD i 0))) := by2
  have HMB : Hid (True ∨ (a3 = some ⟨gm, 0, none⟩ ∧ RowF (.int .i64) w8 gm 0 (fun i => l.getD i 0))) := bm2.imp (fun h => by first | exact h | trivial) id
  clear hX hY hZ hM bx1 bx2 by1 by2 bz1 bz2 bm1 bm2 hs34 hs45 hsw2 hsw3 hs6 hb8 HX4 HY5 HX5 HX6 HY6 HZ6 HM4 HM5 HM6 HXY HB2 HB3 HB4 HB5 HB6 HSH HRS HMN0
  go_wp2
  go_loopw [54] (fun vi wr => ∃ k : Nat, k ≤ np ∧ vi = .int .i64 k ∧ Hid ((np = 0 ∨ ∃ G, RowF (.int .i64) wr gy np G) ∧ (∀ q, q ≠ gy → wr.heap[q]? = w8.heap[q]?) ∧ w8.heap.size ≤ wr.heap.size ∧ Below w.heap.size w wr)) (fun vi _ => np - (intOf vi).toNat)
  case atStart => exact ⟨0, Nat.zero_le _, rfl, ⟨HYB.out.imp id (fun h => ⟨_, h.2⟩), fun _ _ => rfl, Nat.le_refl _, HB8.out⟩⟩
  case round =>
    obtain ⟨k, hk, rfl, HQ⟩ := hrel
    by_cases hkn : k < np
    · have hay : ay = some ⟨gy, 0, none⟩ := (HYB.out.resolve_left (by omega)).1
      obtain ⟨G, hG⟩ := HQ.out.1.resolve_left (by omega)
      have HGR : Hid (RowF (.int .i64) wr gy np G) := hG
      have c0 := hG.cell k hkn
      have f0 := hG.free k hkn
      have hkz : (k : Int) < (np : Int) := by omega
      subst hay
      clear hG
      go_wp2
      go_roundw
      case rel =>
        refine ⟨k + 1, by omega, by go_num, ⟨.inr ⟨_, HGR.out.set k (-7) hkn⟩, fun q hq => (heap_set_other _ _ _ _ hq).trans (HQ.out.2.1 q hq), by have := HQ.out.2.2.1; simpa [World.setCell] using this, HQ.out.2.2.2.setCell (by have := HG.out; show _ ≤ gy; omega) _⟩⟩
      case measure => first | (simp [intOf]; done) | (simp [intOf]; omega)
    · obtain rfl : k = np := by omega
      have HW1 : Hid ((∀ q, q ≠ gy → wr.heap[q]? = w8.heap[q]?) ∧ w8.heap.size ≤ wr.heap.size ∧ Below w.heap.size w wr) := HQ.out.2
      clear HQ
      have HMG : Hid (True ∨ ∃ G, RowF (.int .i64) wr gm 0 G) := by
        rcases HMB.out with h | ⟨_, h⟩
        · exact .inl h
        · by_cases h0 : True
          · exact .inl h0
          · first | exact absurd trivial h0 | exact .inr ⟨_, h.same HW1.out.2.1 (HW1.out.1 gm (by have h1 := HLT.out.2; have h2 := HG.out; omega))⟩
      go_wp2
      obtain ⟨w9, hw9⟩ : ∃ w9, w9 = wr := ⟨_, rfl⟩
      subst hw9
      go_loopw [63] (fun vi wx => ∃ j : Nat, j ≤ 0 ∧ vi = .int .i64 j ∧ Hid ((True ∨ ∃ G, RowF (.int .i64) wx gm 0 G) ∧ (∀ q, (q ≠ gm ∨ True) → wx.heap[q]? = w9.heap[q]?) ∧ w9.heap.size ≤ wx.heap.size ∧ Below w.heap.size w wx)) (fun vi _ => 0 - (intOf vi).toNat)
      case atStart => exact ⟨0, Nat.zero_le _, rfl, ⟨HMG.out, fun _ _ => rfl, Nat.le_refl _, HW1.out.2.2⟩⟩
      case round =>
        obtain ⟨j, hj, rfl, HQ⟩ := hrel
        by_cases hjn : j < 0
        · omega
        · obtain rfl : j = 0 := by omega
          have HFIN : Hid (Ints wr az P ∧ Ints wr ax P) := by
            by_cases h0 : k = 0
            · exact ⟨ints_void _ _ (by rw [HNP.out]; exact h0), ints_void _ _ (by rw [HNP.out]; exact h0)⟩
            · have ez := HZB.out.resolve_left h0
              have ex := HXB.out.resolve_left h0
              have hl := HLT.out.1.resolve_left h0
              have hg := HG.out
              have hm : gm ≠ gz ∧ gm ≠ gx ∨ True := by
                rcases HLT.out.2 with h | h
                · exact .inr h
                · exact .inl ⟨by omega, by omega⟩
              have hzx := HZX.out
              rw [ez, ex] at hzx ⊢
              have hq0 : ∀ q, q ≠ gy → (q ≠ gm ∨ True) → wr.heap[q]? = w8.heap[q]? := fun q h1 h2 => (HQ.out.2.1 q h2).trans (HW1.out.1 q h1)
              have hsz : w8.heap.size ≤ wr.heap.size := Nat.le_trans HW1.out.2.1 HQ.out.2.2.1
              have hg1 : gz ≠ gm ∨ True := hm.imp (fun h e => h.1 e.symm) id
              have hg2 : gx ≠ gm ∨ True := hm.imp (fun h e => h.2 e.symm) id
              exact ⟨hzx.1.same hsz (hq0 gz (by omega) hg1), hzx.2.same hsz (hq0 gx (by omega) hg2)⟩
          clear HZX HXB HZB HYB HMB
          go_wp2_with (first
            | (go_at_call 9; refine (sameI_at P P k k az ax _ _ wr HNP.out HNP.out HFIN.out.1 HFIN.out.2 HPM.out HPM.out).mono ?_; rw [decide_eq_true (rfl : P = P)]; rintro e w10 ⟨rfl, q10, rfl⟩))
          go_ret
          exact ⟨ret_bool (by simp), below_drewN HQ.out.2.2.2 q10⟩
set_option maxRecDepth 20000 in
theorem walk (t : Int) (l : List Int) (a : Option Addr) (cap : Nat) (w : World) (w0 : (Lit.int .i64 t).wf = true) (hb : Ints w a l) (hc : Came w a l.length cap 8) :
    Calls Try.prog 3 #[.int .i64 t, .slice a l.length cap] w fun e w' => e = .returned (.bool true) ∧ Below w.heap.size w w' := by
  obtain ⟨hf, hr, hn⟩ := hc
  have HT : Hid (inI t) := wf_i64 _ w0
  cases a with
  | some x => exact walk_some t l _ x cap w HT rfl hb hf hr
  | none =>
    obtain rfl := hn rfl
    obtain rfl : l = [] := List.length_eq_zero_iff.1 (by omega)
    exact walk_none t [] w HT rfl hb
theorem own : ownKnob Try.prog.godebug = none := by kernel_rfl
theorem laidOut : laidOutB Try.prog = true := by kernel_rfl
set_option maxRecDepth 100000 in
theorem contract (H : Type) (enc : TypeId × Value → H) (W : World) (base : Nat) (args : Array Value) (ds gs : List (DataW H)) (before : List MemPlace)
    (hval : ∀ (j : Nat) t v, Try.f3.params[j]? = some t → args[j]? = some v → Value.okWide Try.prog W .any base t v)
    (hW : DataW.Whole enc Try.prog Try.f3.params.toList Rows.numSharesSpec.vars false W args.toList ds gs before)
    (hsz : (DataW.weightsEach Try.prog (Try.f3.params.toList ++ Rows.numSharesSpec.plain.varTypes Try.prog) (ds ++ gs)).all (· ≤ reachBytes) = true) :
    Calls Try.prog 3 args W fun e W' => ∃ v, e = .returned v ∧ Rows.numSharesSpec.post enc Try.prog Try.f3 false true false false W args v W' := by
  have hW' := hW
  obtain ⟨p, q, hA0, hV, rfl, hfz, hnd⟩ := hW
  have hA : DataW.TrodAll enc Try.prog W 0 (fun _ => true) true Try.f3.params.toList args.toList ds p := hA0
  rw [Try.params3] at hA hval hsz
  obtain ⟨v0, vs0, d0, ds0, p0, q0, hargs, rfl, rfl, h0, r0⟩ := trodAll_cons hA
  obtain ⟨v1, vs1, d1, ds1, p1, q1, rfl, rfl, rfl, h1, r1⟩ := trodAll_cons r0
  obtain ⟨rfl, rfl, rfl⟩ := trodAll_nil r1
  obtain rfl : args = #[v0, v1] := by cases args; simp_all
  obtain ⟨rfl, rfl⟩ := trodVars_none hV
  obtain ⟨a0, rfl, rfl, rfl, w0⟩ := open_int Try.underlying2 (hval 0 2 v0 rfl rfl) h0
  obtain ⟨a1, len1, cap1, rfl⟩ := okWide_slice Try.underlying22 (hval 1 22 v1 rfl rfl)
  have k1 := h1
  have lt1 : ∀ x ∈ p1, x.block < W.heap.size := by obtain ⟨m, hm⟩ := k1; exact DataW.trod_lt m _ _ _ hm
  obtain ⟨l1, hlen1, w1, c1⟩ : ∃ l : List Int, l.length = len1 ∧ Ints W a1 l ∧ Came W a1 len1 cap1 8 := by
    obtain ⟨fuel, hf⟩ := h1
    rcases open_ints Try.underlying22 Try.underlying2 (by kernel_rfl) hf with ⟨hcs, hx⟩ | ⟨x, l, c, zs, hcs, _, hl, hm, hz, hx, hcell, hwz⟩
    · simp [Value.cells] at hcs
      obtain ⟨rfl, rfl, rfl⟩ := hcs
      exact ⟨[], rfl, ⟨by simp, .inl rfl⟩, ⟨Nat.le_refl _, by simp, fun _ => rfl⟩⟩
    · simp [Value.cells] at hcs
      obtain ⟨rfl, rfl, rfl⟩ := hcs
      have hz2 : zs.length = cap1 := by simpa using hz
      obtain ⟨ll, e1, e2, e3⟩ := row_ints W x zs len1 (by omega) hcell hwz
      have hd : d1 = .slice (lits .i64 (zs.take len1)) (lits .i64 (zs.drop len1)) := (Prod.mk.inj hx).1
      have hreach : cap1 * 8 ≤ 140737488351232 := by
        have := sized_slice hsz (j := 1) (t := 22) (e := 2) rfl (by rw [hd]; rfl) Try.underlying22
        rw [show Try.prog.bytesOf 2 = 8 from by kernel_rfl] at this
        simp only [lits, List.length_map, List.length_take, List.length_drop, reachBytes] at this
        have hmin : min len1 zs.length = len1 := Nat.min_eq_left (by omega)
        rw [hmin] at this
        have hcap : len1 + (zs.length - len1) = cap1 := by omega
        rw [hcap] at this
        exact this
      exact ⟨ll, e1, ⟨e2, e3⟩, ⟨hl, hreach, fun h => by cases h⟩⟩
  subst hlen1
  clear hA0
  refine (walk a0 l1 a1 cap1 W w0 w1 c1).mono fun e W' ⟨he, bel⟩ => ?_
  subst he
  exact ⟨_, rfl, _, _, _, [], _, [], hW', trodAll_mk1 (shut_bool Try.underlying4 _), (trodAll_cons_mk (shut_int Try.underlying2 w0) (trodAll_cons_mk (Below.trod laidOut (by kernel_rfl) (of_decide_eq_true (by kernel_rfl)) k1 bel lt1) trodAll_mk0)), rfl, bel.frame _, fun h => by cases h⟩
set_option maxRecDepth 100000 in
theorem lifted (os : Os) (started : os.Started) (H : Type) (enc : TypeId × Value → H) :
    ReturnsInHanded {} Try.checked os 3 .any (Rows.numSharesSpec.pre6 enc Try.prog Try.f3 Rows.numSharesRow.domain false) (Rows.numSharesSpec.post enc Try.prog Try.f3 false true false false) := by
  refine returnsInHanded_of_change_sized (C := Try.checked) own started (by kernel_rfl) Try.func3
    (ChangeSpec.witness6 (enc := enc) (C := Try.checked) false ⟨#[], #[.int .i64 0, .slice none 0 0], []⟩ 8 (by kernel_rfl) (by kernel_rfl) (by kernel_rfl) (by kernel_rfl)) ?_
  intro W base args ds gs before hval hW _ hsz _
  exact contract H enc W base args ds gs before hval hW hsz
theorem over : Rows.numSharesRow.holds Try.pinned (OpenSpec.ofChange Rows.numSharesSpec) :=
  OpenClaim.holds_of_wide 3 Try.f3 rfl rfl rfl rfl rfl rfl rfl ⟨rfl, rfl, rfl, rfl, rfl⟩ rfl rfl rfl rfl rfl (by kernel_rfl) Try.func3 (by kernel_rfl)
    (of_decide_eq_true (by kernel_rfl)) (by unfold Func.isWrapper; first | (rw [if_pos (by decide +kernel)]; kernel_rfl) | (rw [if_neg (by decide +kernel)]; exact ⟨rfl, rfl⟩))
    (fun os started H enc _ => lifted os started H enc)
theorem proved : Rows.NumSharesSaid := over
end Go.Proofs.Ytapbceeiehiikaa.numShares
