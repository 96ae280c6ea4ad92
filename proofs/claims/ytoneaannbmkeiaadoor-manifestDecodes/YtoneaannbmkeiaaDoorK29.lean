/- Own texts, joined: Rm2b. -/
import Derived.Test.YtoneaannbmkeiaaDoorK27
import Derived.BigQuiet
namespace Go.Proofs.YtoneaannbmkeiaaDoor
open Go.ChangeShapes Go.WideShapes Go.ChangeAt Go.RowKit
set_option linter.unusedVariables false
set_option maxRecDepth 20000 in
set_option maxHeartbeats 8000000 in
theorem rmv_loopB (g nx fl sn sq : Int) (a : Option Addr) (n cap : Nat) (w : World) (L : List Sm) (h0 : 1 ≤ g) (h1 : g ≤ 1099511627776) (h2 : 2 ≤ nx) (h3 : nx ≤ 1000000) (h4 : 0 ≤ sq) (h5 : sq ≤ 1099511627776) (h6 : 0 ≤ fl) (h7 : fl ≤ sq) (h8 : 0 ≤ sn) (h9 : sn < nx) (b1 : (sn == 0) = false) (b2 : (sn != 0) = true) (b3 : (sq == 0) = false) (hn1 : 1 ≤ n) (hn2 : n ≤ 256) (hL : L.length = n) (hS : Sms w a L) : Calls Tryd.prog 18 #[.agg #[.int .i64 g, .int .i64 nx, .int .i64 fl, .int .i64 sn, .int .i64 sq, .slice a n cap]] w fun e w' => e = .returned (.bool (segsB nx 0 (fl + 1) L)) ∧ Below w.heap.size w w' := by
  have HS : Hid (L.length = n ∧ Sms w a L) := ⟨hL, hS⟩
  have hn1I : (1 : Int) ≤ (n : Int) := by omega
  have hn2I : (n : Int) ≤ 256 := by omega
  have hf3 : fl ≤ 1099511627776 := by omega
  obtain ⟨R, hR⟩ : ∃ R, segsB nx 0 (fl + 1) L = R := ⟨_, rfl⟩
  have HR : Hid (segsB nx 0 (fl + 1) L = R) := hR
  rw [hR]
  have d0 : decide (g < 1) = false := by simp; omega
  have d1 : decide (1099511627776 < g) = false := by simp; omega
  have d2 : decide (nx < 2) = false := by simp; omega
  have d3 : decide (1000000 < nx) = false := by simp; omega
  have d4 : decide (sq < 0) = false := by simp; omega
  have d5 : decide (1099511627776 < sq) = false := by simp; omega
  have d6 : decide (fl < 0) = false := by simp; omega
  have d7 : decide (sq < fl) = false := by simp; omega
  have d8 : decide (sn < 0) = false := by simp; omega
  have d9 : decide (nx ≤ sn) = false := by simp; omega
  have d10 : decide ((n : Int) < 1) = false := by simp; omega
  have d11 : decide ((256 : Int) < (n : Int)) = false := by simp; omega
  have HH : Hid (2 ≤ nx ∧ nx ≤ 1000000 ∧ 0 ≤ fl ∧ fl ≤ 1099511627776) := ⟨h2, h3, h6, hf3⟩
  clear hL hS hR h0 h1 h2 h3 h4 h5 h7 h8 h9 hn1I hn2I
  go_enter Tryd.func18, Tryd.ntmps18
  go_wp2
  obtain ⟨W0, hW0⟩ : ∃ W0, w.alloc (.cells #[.int .i64 g, .int .i64 nx, .int .i64 fl, .int .i64 sn, .int .i64 sq, .slice a n cap] 24) = W0 := ⟨_, rfl⟩
  have HW0 : Hid (Below w.heap.size w W0 ∧ W0.heap[w.heap.size]? = some (.cells #[.int .i64 g, .int .i64 nx, .int .i64 fl, .int .i64 sn, .int .i64 sq, .slice a n cap] 24) ∧ w.heap.size < W0.heap.size) := by rw [← hW0]; exact ⟨(Below.refl _ _).alloc (Nat.le_refl _) _, heap_alloc_new w _, by simp⟩
  rw [hW0]
  clear hW0 d0 d1 d2 d3 d4 d5 d6 d7 d8 d9 d10 d11 b1 b2 b3 hf3 h6
  obtain ⟨h2, h3, h6, hf3⟩ := HH.out
  have hn2I : (n : Int) ≤ 256 := by omega
  go_loopw [4, 92] (fun v4 vi wr => ∃ (k : Nat) (x y : Int), k ≤ n ∧ v4 = .int .i64 y ∧ vi = .int .i64 k ∧ 0 ≤ x ∧ x ≤ 1000000 ∧ 0 ≤ y ∧ y ≤ 1099511627777 + 512 * (k : Int) ∧ ((k = 0 ∧ x = 0) ∨ ∃ j s, k = j + 1 ∧ L[j]? = some s ∧ s.num = x ∧ 1 ≤ x) ∧ segsB nx 0 (fl + 1) L = segsB nx x y (L.drop k) ∧ Below W0.heap.size W0 wr) (fun _ vi _ => n - (intOf vi).toNat)
  case atStart => exact ⟨0, 0, fl + 1, Nat.zero_le _, by go_num, rfl, by omega, by omega, by omega, by omega, .inl ⟨rfl, rfl⟩, rfl, Below.refl _ _⟩
  case round =>
    obtain ⟨k, x, y, hk, rfl, rfl, hx0, hxm, hy0, hym, hprev, hft, hbr⟩ := hrel
    have HFT : Hid (segsB nx 0 (fl + 1) L = segsB nx x y (L.drop k)) := hft
    have hsz := hbr.size
    have hb0 : wr.heap[w.heap.size]? = some (.cells #[.int .i64 g, .int .i64 nx, .int .i64 fl, .int .i64 sn, .int .i64 sq, .slice a n cap] 24) := (hbr.block _ HW0.out.2.2).trans HW0.out.2.1
    have g1 : wr.cell? ⟨w.heap.size, 1, none⟩ = some (.int .i64 nx) := by rw [cell_of_row _ _ 1 _ _ _ hb0]; rfl
    have g5 : wr.cell? ⟨w.heap.size, 5, none⟩ = some (.slice a n cap) := by rw [cell_of_row _ _ 5 _ _ _ hb0]; rfl
    have hlw : w.heap.size < wr.heap.size := Nat.lt_of_lt_of_le HW0.out.2.2 hsz
    have HBW : Hid (Below w.heap.size w wr) := HW0.out.1.trans (hbr.mono (Nat.le_of_lt HW0.out.2.2))
    clear hft hb0
    by_cases hkn : k < n
    · obtain ⟨⟨p, q, c, f⟩, hp⟩ := sm_get (L := L) (k := k) (by rw [HS.out.1]; exact hkn)
      have hmk : Sms wr a L := HS.out.2.keep HBW.out
      obtain ⟨b, off, hab, hlt, c0, c1, c2, c3⟩ := hmk.cells k _ hp
      subst hab
      simp only at c0 c1 c2 c3
      have hdr := sm_drop L k _ hp
      have hkI : (k : Int) < (n : Int) := by omega
      obtain ⟨act, hact⟩ : ∃ act, (L.drop (k + 1)).isEmpty = act := ⟨_, rfl⟩
      have hact3 : (act = true ∧ k + 1 = n) ∨ (act = false ∧ k + 1 < n) := by
        rw [← hact]
        by_cases he : k + 1 = n
        · exact .inl ⟨by rw [List.drop_eq_nil_of_le (by rw [HS.out.1]; omega)]; rfl, he⟩
        · refine .inr ⟨?_, by omega⟩
          cases hd : L.drop (k + 1) with
          | nil => exfalso; have := congrArg List.length hd; rw [List.length_drop, HS.out.1] at this; simp at this; omega
          | cons _ _ => rfl
      have HST : Hid (segsB nx x y (L.drop k) = if x + 1 ≤ p ∧ p ≤ nx - 1 ∧ q = y ∧ endB ⟨p, q, c, f⟩ act = true then segsB nx p (q + c) (L.drop (k + 1)) else false) := by show _ = _; rw [hdr, segsB_cons, hact]
      have HREST : Hid (act = true → L.drop (k + 1) = []) := fun h => by rw [h] at hact; exact List.isEmpty_iff.1 hact
      have HPN : Hid (L[k]? = some ⟨p, q, c, f⟩) := hp
      clear hdr hact
      have dkn : decide ((k : Int) < (n : Int)) = true := by simp; omega
      rcases hprev with ⟨hk0, hx⟩ | ⟨j, s, hkj, hsj, hsx, hx1⟩
      · subst hx
        have dk : decide ((0 : Int) < (k : Int)) = false := by simp; omega
        have dkN : decide (0 < k) = false := by simp; omega
        have dkP : ¬ 0 < k := by omega
        clear hk0
        by_cases t1 : 1 ≤ p
        rotate_left
        · have HT : Hid (R = false) := by show _ = _; rw [← HR.out, HFT.out, HST.out, if_neg (fun h => t1 (by omega))]
          have t1n : decide (p < 1) = true := by simp; omega
          clear t1
          clear HST HFT hmk
          go_wp2
          go_quiet (fail)
          go_wp2
          go_ret
          exact ⟨by rw [HT.out]; rfl, bel_drewN (HBW.out.alloc (Nat.le_of_lt hlw) _) _⟩
        by_cases t2 : p < nx
        rotate_left
        · have HT : Hid (R = false) := by show _ = _; rw [← HR.out, HFT.out, HST.out, if_neg (fun h => t2 (by omega))]
          have dt1 : decide (p < 1) = false := by simp; omega
          have t2n : decide (nx ≤ p) = true := by simp; omega
          clear t2
          clear HST HFT hmk
          go_wp2
          go_quiet (fail)
          go_wp2
          go_ret
          exact ⟨by rw [HT.out]; rfl, bel_drewN (HBW.out.alloc (Nat.le_of_lt hlw) _) _⟩
        have dt1 : decide (p < 1) = false := by simp; omega
        have dt2 : decide (nx ≤ p) = false := by simp; omega
        by_cases t4 : q = y
        rotate_left
        · have HT : Hid (R = false) := by show _ = _; rw [← HR.out, HFT.out, HST.out, if_neg (fun h => t4 h.2.2.1)]
          have hq : (q != y) = true := by simp; exact t4
          clear t4
          clear HST HFT hmk
          go_wp2
          go_quiet (fail)
          go_wp2
          go_ret
          exact ⟨by rw [HT.out]; rfl, bel_drewN (HBW.out.alloc (Nat.le_of_lt hlw) _) _⟩
        subst t4
        have hq : (q != q) = false := by simp
        rcases hact3 with ⟨ha, hkn1⟩ | ⟨ha, hkn1⟩
        · have hla : ((k : Int) == (n : Int) - 1) = true := by simp; omega
          have HLS : Hid (R = endB ⟨p, q, c, f⟩ true) := by
            show _ = _
            rw [← HR.out, HFT.out, HST.out, HREST.out ha, ha]
            cases hh : endB ⟨p, q, c, f⟩ true with
            | true => rw [if_pos ⟨by omega, by omega, rfl, rfl⟩]; rfl
            | false => rw [if_neg (fun h => by simp at h)]
          clear HREST
          by_cases e1 : c = 0
          · subst e1
            by_cases e2 : f = 0
            · subst e2
              by_cases e3 : q ≤ 1099511627777
              · have HT : Hid (R = true) := by show _ = _; rw [HLS.out]; simp [endB]; omega
                have de3 : decide (q ≤ 1099511627777) = true := by simp; omega
                clear HST HFT hmk
                go_wp2
                go_quiet (fail)
                go_wp2
                go_ret
                exact ⟨by rw [HT.out]; rfl, bel_drewN (HBW.out.alloc (Nat.le_of_lt hlw) _) _⟩
              · exfalso; omega
            · have HT : Hid (R = false) := by show _ = _; rw [HLS.out]; simp [endB]; omega
              have e2b : (f == 0) = false := by simp; exact e2
              clear HST HFT hmk
              go_wp2
              go_quiet (fail)
              go_wp2
              go_ret
              exact ⟨by rw [HT.out]; rfl, bel_drewN (HBW.out.alloc (Nat.le_of_lt hlw) _) _⟩
          · have HT : Hid (R = false) := by show _ = _; rw [HLS.out]; simp [endB]; omega
            have e1b : (c == 0) = false := by simp; exact e1
            clear HST HFT hmk
            go_wp2
            go_quiet (fail)
            go_wp2
            go_ret
            exact ⟨by rw [HT.out]; rfl, bel_drewN (HBW.out.alloc (Nat.le_of_lt hlw) _) _⟩
        · have hla : ((k : Int) == (n : Int) - 1) = false := by simp; omega
          subst ha
          clear HREST
          by_cases d0x : 1 ≤ c
          rotate_left
          · have HT : Hid (R = false) := by show _ = _; rw [← HR.out, HFT.out, HST.out, if_neg (fun h => by have := endB_false h.2.2.2; simp only at this; omega)]
            have d0n : decide (c < 1) = true := by simp; omega
            clear d0x
            clear HST HFT hmk
            go_wp2
            go_quiet (fail)
            go_wp2
            go_ret
            exact ⟨by rw [HT.out]; rfl, bel_drewN (HBW.out.alloc (Nat.le_of_lt hlw) _) _⟩
          have d0n : decide (c < 1) = false := by simp; omega
          by_cases d1x : c ≤ 512
          rotate_left
          · have HT : Hid (R = false) := by show _ = _; rw [← HR.out, HFT.out, HST.out, if_neg (fun h => by have := endB_false h.2.2.2; simp only at this; omega)]
            have d1n : decide (512 < c) = true := by simp; omega
            clear d1x
            clear HST HFT hmk
            go_wp2
            go_quiet (fail)
            go_wp2
            go_ret
            exact ⟨by rw [HT.out]; rfl, bel_drewN (HBW.out.alloc (Nat.le_of_lt hlw) _) _⟩
          have d1n : decide (512 < c) = false := by simp; omega
          by_cases d2x : 1 ≤ f
          rotate_left
          · have HT : Hid (R = false) := by show _ = _; rw [← HR.out, HFT.out, HST.out, if_neg (fun h => by have := endB_false h.2.2.2; simp only at this; omega)]
            have d2n : decide (f < 1) = true := by simp; omega
            clear d2x
            clear HST HFT hmk
            go_wp2
            go_quiet (fail)
            go_wp2
            go_ret
            exact ⟨by rw [HT.out]; rfl, bel_drewN (HBW.out.alloc (Nat.le_of_lt hlw) _) _⟩
          have d2n : decide (f < 1) = false := by simp; omega
          by_cases d3x : f ≤ 1099511627776
          rotate_left
          · have HT : Hid (R = false) := by show _ = _; rw [← HR.out, HFT.out, HST.out, if_neg (fun h => by have := endB_false h.2.2.2; simp only at this; omega)]
            have d3n : decide (1099511627776 < f) = true := by simp; omega
            clear d3x
            clear HST HFT hmk
            go_wp2
            go_quiet (fail)
            go_wp2
            go_ret
            exact ⟨by rw [HT.out]; rfl, bel_drewN (HBW.out.alloc (Nat.le_of_lt hlw) _) _⟩
          have d3n : decide (1099511627776 < f) = false := by simp; omega
          have HT : Hid (segsB nx 0 (fl + 1) L = segsB nx p (q + c) (L.drop (k + 1))) := by show _ = _; rw [HFT.out, HST.out, if_pos ⟨by omega, by omega, rfl, by simp [endB]; omega⟩]
          clear HST HFT hmk
          go_wp2
          go_quiet (fail)
          go_wp2
          go_roundw
          case rel => exact ⟨k + 1, p, q + c, by omega, by go_num, by go_num, by omega, by omega, by omega, by omega, .inr ⟨k, _, rfl, HPN.out, rfl, by omega⟩, HT.out, bel_drewN (hbr.alloc hsz _) _⟩
          case measure => simp [intOf]; omega
      · have hkj1 : (k : Int) - 1 = (j : Int) := by omega
        have hkw : IntKind.i64.wrap ((k : Int) - 1) = (j : Int) := by rw [wrap_i64]; omega
        have dk : decide ((0 : Int) < (k : Int)) = true := by simp; omega
        have dkN : decide (0 < k) = true := by simp; omega
        have dkP : 0 < k := by omega
        obtain ⟨b2, off2, hab2, _, p0, _, _, _⟩ := hmk.cells j _ hsj
        cases hab2
        rw [hsx] at p0
        have hjI : (j : Int) < (n : Int) := by omega
        clear hkj hsj hsx
        by_cases t1 : 1 ≤ p
        rotate_left
        · have HT : Hid (R = false) := by show _ = _; rw [← HR.out, HFT.out, HST.out, if_neg (fun h => t1 (by omega))]
          have t1n : decide (p < 1) = true := by simp; omega
          clear t1
          clear HST HFT hmk
          go_wp2
          go_quiet (fail)
          go_wp2
          go_ret
          exact ⟨by rw [HT.out]; rfl, bel_drewN (HBW.out.alloc (Nat.le_of_lt hlw) _) _⟩
        by_cases t2 : p < nx
        rotate_left
        · have HT : Hid (R = false) := by show _ = _; rw [← HR.out, HFT.out, HST.out, if_neg (fun h => t2 (by omega))]
          have dt1 : decide (p < 1) = false := by simp; omega
          have t2n : decide (nx ≤ p) = true := by simp; omega
          clear t2
          clear HST HFT hmk
          go_wp2
          go_quiet (fail)
          go_wp2
          go_ret
          exact ⟨by rw [HT.out]; rfl, bel_drewN (HBW.out.alloc (Nat.le_of_lt hlw) _) _⟩
        by_cases t3 : x < p
        rotate_left
        · have HT : Hid (R = false) := by show _ = _; rw [← HR.out, HFT.out, HST.out, if_neg (fun h => t3 (by omega))]
          have dt1 : decide (p < 1) = false := by simp; omega
          have dt2 : decide (nx ≤ p) = false := by simp; omega
          have t3n : decide (p ≤ x) = true := by simp; omega
          clear t3
          clear HST HFT hmk
          go_wp2
          go_quiet (fail)
          go_wp2
          go_ret
          exact ⟨by rw [HT.out]; rfl, bel_drewN (HBW.out.alloc (Nat.le_of_lt hlw) _) _⟩
        have dt1 : decide (p < 1) = false := by simp; omega
        have dt2 : decide (nx ≤ p) = false := by simp; omega
        have dt3 : decide (p ≤ x) = false := by simp; omega
        by_cases t4 : q = y
        rotate_left
        · have HT : Hid (R = false) := by show _ = _; rw [← HR.out, HFT.out, HST.out, if_neg (fun h => t4 h.2.2.1)]
          have hq : (q != y) = true := by simp; exact t4
          clear t4
          clear HST HFT hmk
          go_wp2
          go_quiet (fail)
          go_wp2
          go_ret
          exact ⟨by rw [HT.out]; rfl, bel_drewN (HBW.out.alloc (Nat.le_of_lt hlw) _) _⟩
        subst t4
        have hq : (q != q) = false := by simp
        rcases hact3 with ⟨ha, hkn1⟩ | ⟨ha, hkn1⟩
        · have hla : ((k : Int) == (n : Int) - 1) = true := by simp; omega
          have HLS : Hid (R = endB ⟨p, q, c, f⟩ true) := by
            show _ = _
            rw [← HR.out, HFT.out, HST.out, HREST.out ha, ha]
            cases hh : endB ⟨p, q, c, f⟩ true with
            | true => rw [if_pos ⟨by omega, by omega, rfl, rfl⟩]; rfl
            | false => rw [if_neg (fun h => by simp at h)]
          clear HREST
          by_cases e1 : c = 0
          · subst e1
            by_cases e2 : f = 0
            · subst e2
              by_cases e3 : q ≤ 1099511627777
              · have HT : Hid (R = true) := by show _ = _; rw [HLS.out]; simp [endB]; omega
                have de3 : decide (q ≤ 1099511627777) = true := by simp; omega
                clear HST HFT hmk
                go_wp2
                go_quiet (fail)
                go_wp2
                go_ret
                exact ⟨by rw [HT.out]; rfl, bel_drewN (HBW.out.alloc (Nat.le_of_lt hlw) _) _⟩
              · have HT : Hid (R = false) := by show _ = _; rw [HLS.out]; simp [endB]; omega
                have de3 : decide (q ≤ 1099511627777) = false := by simp; omega
                clear HST HFT hmk
                go_wp2
                go_quiet (fail)
                go_wp2
                go_ret
                exact ⟨by rw [HT.out]; rfl, bel_drewN (HBW.out.alloc (Nat.le_of_lt hlw) _) _⟩
            · have HT : Hid (R = false) := by show _ = _; rw [HLS.out]; simp [endB]; omega
              have e2b : (f == 0) = false := by simp; exact e2
              clear HST HFT hmk
              go_wp2
              go_quiet (fail)
              go_wp2
              go_ret
              exact ⟨by rw [HT.out]; rfl, bel_drewN (HBW.out.alloc (Nat.le_of_lt hlw) _) _⟩
          · have HT : Hid (R = false) := by show _ = _; rw [HLS.out]; simp [endB]; omega
            have e1b : (c == 0) = false := by simp; exact e1
            clear HST HFT hmk
            go_wp2
            go_quiet (fail)
            go_wp2
            go_ret
            exact ⟨by rw [HT.out]; rfl, bel_drewN (HBW.out.alloc (Nat.le_of_lt hlw) _) _⟩
        · have hla : ((k : Int) == (n : Int) - 1) = false := by simp; omega
          subst ha
          clear HREST
          by_cases d0x : 1 ≤ c
          rotate_left
          · have HT : Hid (R = false) := by show _ = _; rw [← HR.out, HFT.out, HST.out, if_neg (fun h => by have := endB_false h.2.2.2; simp only at this; omega)]
            have d0n : decide (c < 1) = true := by simp; omega
            clear d0x
            clear HST HFT hmk
            go_wp2
            go_quiet (fail)
            go_wp2
            go_ret
            exact ⟨by rw [HT.out]; rfl, bel_drewN (HBW.out.alloc (Nat.le_of_lt hlw) _) _⟩
          have d0n : decide (c < 1) = false := by simp; omega
          by_cases d1x : c ≤ 512
          rotate_left
          · have HT : Hid (R = false) := by show _ = _; rw [← HR.out, HFT.out, HST.out, if_neg (fun h => by have := endB_false h.2.2.2; simp only at this; omega)]
            have d1n : decide (512 < c) = true := by simp; omega
            clear d1x
            clear HST HFT hmk
            go_wp2
            go_quiet (fail)
            go_wp2
            go_ret
            exact ⟨by rw [HT.out]; rfl, bel_drewN (HBW.out.alloc (Nat.le_of_lt hlw) _) _⟩
          have d1n : decide (512 < c) = false := by simp; omega
          by_cases d2x : 1 ≤ f
          rotate_left
          · have HT : Hid (R = false) := by show _ = _; rw [← HR.out, HFT.out, HST.out, if_neg (fun h => by have := endB_false h.2.2.2; simp only at this; omega)]
            have d2n : decide (f < 1) = true := by simp; omega
            clear d2x
            clear HST HFT hmk
            go_wp2
            go_quiet (fail)
            go_wp2
            go_ret
            exact ⟨by rw [HT.out]; rfl, bel_drewN (HBW.out.alloc (Nat.le_of_lt hlw) _) _⟩
          have d2n : decide (f < 1) = false := by simp; omega
          by_cases d3x : f ≤ 1099511627776
          rotate_left
          · have HT : Hid (R = false) := by show _ = _; rw [← HR.out, HFT.out, HST.out, if_neg (fun h => by have := endB_false h.2.2.2; simp only at this; omega)]
            have d3n : decide (1099511627776 < f) = true := by simp; omega
            clear d3x
            clear HST HFT hmk
            go_wp2
            go_quiet (fail)
            go_wp2
            go_ret
            exact ⟨by rw [HT.out]; rfl, bel_drewN (HBW.out.alloc (Nat.le_of_lt hlw) _) _⟩
          have d3n : decide (1099511627776 < f) = false := by simp; omega
          have HT : Hid (segsB nx 0 (fl + 1) L = segsB nx p (q + c) (L.drop (k + 1))) := by show _ = _; rw [HFT.out, HST.out, if_pos ⟨by omega, by omega, rfl, by simp [endB]; omega⟩]
          clear HST HFT hmk
          go_wp2
          go_quiet (fail)
          go_wp2
          go_roundw
          case rel => exact ⟨k + 1, p, q + c, by omega, by go_num, by go_num, by omega, by omega, by omega, by omega, .inr ⟨k, _, rfl, HPN.out, rfl, by omega⟩, HT.out, bel_drewN (hbr.alloc hsz _) _⟩
          case measure => simp [intOf]; omega
    · obtain rfl : n = k := by omega
      have HT : Hid (R = true) := by show _ = _; rw [← HR.out, HFT.out, List.drop_of_length_le (by rw [HS.out.1]; exact Nat.le_refl _)]; rfl
      clear hprev
      go_wp2
      go_ret
      exact ⟨by rw [HT.out]; rfl, HBW.out⟩
end Go.Proofs.YtoneaannbmkeiaaDoor
