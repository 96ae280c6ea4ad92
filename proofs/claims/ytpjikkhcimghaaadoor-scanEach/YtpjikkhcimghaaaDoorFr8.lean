/- daybookref11: Peek. -/
import Derived.Test.YtpjikkhcimghaaaDoorFr6
import Derived.Deep.RegionHeld3
namespace Go.Proofs.YtpjikkhcimghaaaDoor
open Go.ChangeShapes Go.WideShapes Go.ChangeAt Go.RowKit
set_option linter.unusedVariables false
theorem closed16 (l : List Nat) (h : 16 ≤ l.length) : closedB (l.take 16) = decide ((l.drop 12).take 4 = Crcm.four (Crcm.sum (l.take 12))) := by
  unfold closedB
  have h1 : (l.take 16).length = 16 := by rw [List.length_take]; omega
  rw [h1, show 16 - 4 = 12 from rfl, List.take_take, show min 12 16 = 12 from rfl, List.drop_take, show 16 - 12 = 4 from rfl, decide_eq_decide]
  exact ⟨fun x => x.2, fun x => ⟨by omega, x⟩⟩
/-- the bytes from 9 down to i -/
def hi6 (l : List Nat) (i : Nat) : Nat := Crcm.val ((l.drop (i + 1)).take (9 - i))
theorem hi6_step (l : List Nat) (i : Nat) (hl : 16 ≤ l.length) (h4 : 4 ≤ i) (h9 : i ≤ 9) : 256 * hi6 l i + l.getD i 0 = Crcm.val ((l.drop i).take (10 - i)) := by
  have e : (l.drop i).take (10 - i) = l.getD i 0 :: (l.drop (i + 1)).take (9 - i) := by
    rw [drop_at l i _ (by omega) rfl, show 10 - i = (9 - i) + 1 from by omega, List.take_succ_cons]
  rw [e]
  show _ = l.getD i 0 + 256 * Crcm.val _
  unfold hi6
  omega
theorem val_take_lt (l : List Nat) (hl : ∀ x ∈ l, x < 256) (i k : Nat) : Crcm.val ((l.drop i).take k) < 256 ^ k := by
  have h := Crcm.val_lt ((l.drop i).take k) (fun x hx => hl x (List.mem_of_mem_drop (List.mem_of_mem_take hx)))
  have h2 : ((l.drop i).take k).length ≤ k := List.length_take_le _ _
  have h3 : 2 ^ (8 * ((l.drop i).take k).length) ≤ 2 ^ (8 * k) := Nat.pow_le_pow_right (by omega) (by omega)
  rw [show (256 : Nat) ^ k = 2 ^ (8 * k) from by rw [Nat.pow_mul]]
  omega
theorem ps_parts (l : List Nat) (hl : 16 ≤ l.length) : ps l = Crcm.val ((l.drop 4).take 6) + 281474976710656 * (l.getD 10 0 + 256 * l.getD 11 0) := by
  unfold ps
  have e : (l.drop 4).take 8 = (l.drop 4).take 6 ++ [l.getD 10 0, l.getD 11 0] := by
    rw [show 8 = 6 + 2 from rfl, List.take_add, List.drop_drop, show 4 + 6 = 10 from rfl, drop_at l 10 _ (by omega) rfl, drop_at l 11 _ (by omega) rfl]
    rfl
  have h6 : ((l.drop 4).take 6).length = 6 := by rw [List.length_take, List.length_drop]; omega
  rw [e, Crcm.val_append, h6]
  rfl
theorem ps_bound (l : List Nat) (hl : 16 ≤ l.length) (hb : ∀ i, l.getD i 0 < 256) : ps l ≤ 1099511627776 ↔ l.getD 10 0 = 0 ∧ l.getD 11 0 = 0 ∧ Crcm.val ((l.drop 4).take 6) ≤ 1099511627776 := by
  rw [ps_parts l hl]
  have := hb 10
  have := hb 11
  omega
/-- what daybookref11.Peek has read by the loop -/
theorem ps_low (l : List Nat) (hl : 16 ≤ l.length) (h10 : l.getD 10 0 = 0) (h11 : l.getD 11 0 = 0) : Crcm.val ((l.drop 4).take 6) = ps l := by
  rw [ps_parts l hl, h10, h11]
  omega
theorem val6_step (l : List Nat) (j : Nat) (hl : 16 ≤ l.length) (h6 : j < 6) : 256 * Crcm.val ((l.drop (10 - j)).take j) + l.getD (9 - j) 0 = Crcm.val ((l.drop (10 - (j + 1))).take (j + 1)) := by
  have e : (l.drop (10 - (j + 1))).take (j + 1) = l.getD (9 - j) 0 :: (l.drop (10 - j)).take j := by
    rw [show 10 - (j + 1) = 9 - j from by omega, drop_at l (9 - j) _ (by omega) rfl, List.take_succ_cons, show 9 - j + 1 = 10 - j from by omega]
  rw [e]
  show _ = l.getD (9 - j) 0 + 256 * Crcm.val _
  omega
theorem val6_lt (l : List Nat) (hl : ∀ x ∈ l, x < 256) (i j : Nat) (h6 : j ≤ 6) : Crcm.val ((l.drop i).take j) < 281474976710656 := by
  have h := val_take_lt l hl i j
  have h2 : 256 ^ j ≤ 256 ^ 6 := Nat.pow_le_pow_right (by omega) h6
  rw [show (256 : Nat) ^ 6 = 281474976710656 from by decide] at h2
  omega
set_option maxRecDepth 20000 in
set_option maxHeartbeats 1000000 in
theorem rpeek_any (l : List Nat) (n : Nat) (a : Option Addr) (cap : Nat) (w : World) (hn : l.length = n) (hb : Bytes w a l) (hl : l.length ≤ 281474976710656) (hcap : l.length ≤ cap) :
    Calls Tryd.prog 18 #[.slice a n cap] w fun e w' => e = .returned (PV l) ∧ Below w.heap.size w w' := by
  by_cases h16 : l.length < 16
  · have HP : Hid (PV l = _) := pv_bad l 60 (peekE_60 h16) (by decide)
    rw [hn] at h16
    have h16I : (n : Int) < 16 := by omega
    clear hb hl hcap h16 hn
    go_enter Tryd.func18, Tryd.ntmps18
    go_wp2
    exact bodyPost_ret (v := .tuple #[.int .i64 0, .int .i64 0, .int .i64 0, .int .i64 60]) (by simp [results, Tryd.results18, go_sem]) rfl ⟨by rw [HP.out]; rfl, Below.refl _ _⟩
  have hne : l ≠ [] := by intro h; subst h; simp at h16
  obtain ⟨b, off, rfl, hlt, hcell⟩ := hb.nonempty hne
  have c0 := hcell 0 (by omega)
  rw [Nat.add_zero] at c0
  obtain ⟨x0, e0⟩ : ∃ x, x = l.getD 0 0 := ⟨_, rfl⟩
  rw [← e0] at c0
  have hx0 : x0 < 256 := by rw [e0]; exact hb.1 0
  have h16n : 16 ≤ n := by omega
  have h16I : ¬ (n : Int) < 16 := by omega
  have h16J : (16 : Int) ≤ (n : Int) := by omega
  have hlI : (n : Int) ≤ 281474976710656 := by omega
  by_cases hm : l.getD 0 0 ≠ 165
  · have HP : Hid (PV l = _) := pv_bad l 61 (peekE_61 h16 hm) (by decide)
    have hx : ((x0 : Int) != 165) = true := by simp; omega
    clear hb hcell e0 hne hm hn hl hcap h16
    go_enter Tryd.func18, Tryd.ntmps18
    go_wp2
    exact bodyPost_ret (v := .tuple #[.int .i64 0, .int .i64 0, .int .i64 0, .int .i64 61]) (by simp [results, Tryd.results18, go_sem]) rfl ⟨by rw [HP.out]; rfl, Below.refl _ _⟩
  have hx : ((x0 : Int) != 165) = false := by simp; omega
  have HB : Hid (Bytes w (some ⟨b, off, none⟩) l) := hb
  have HL12 : Hid ((l.take 12).length = 12) := by show _ = _; rw [List.length_take]; omega
  have HL4 : Hid (((l.drop 12).take 4).length = 4) := by show _ = _; rw [List.length_take, List.length_drop]; omega
  have HS12 : Hid (Crcm.sum (l.take 12) < 4294967296) := Crcm.sum_lt _ (fun x hx => hb.mem x (List.mem_of_mem_take hx))
  have HC16 : Hid (closedB (l.take 16) = decide ((l.drop 12).take 4 = Crcm.four (Crcm.sum (l.take 12)))) := closed16 l (by omega)
  have h16c : (16 : Int) ≤ (cap : Int) := by omega
  have hq12 : ¬ cap = 12 := by omega
  have h12c : (12 : Int) ≤ (cap : Int) := by omega
  have HCELL : Hid (∀ w', Below w.heap.size w w' → ∀ i, i < 16 → w'.cell? ⟨b, off + i, none⟩ = some (.int .u8 (l.getD i 0 : Nat))) := fun w' hw' i hi => (hw'.cell (p := ⟨b, off + i, none⟩) hlt).trans (hcell i (by omega))
  by_cases hcl : closedB (l.take 16) = false
  · have HP : Hid (PV l = _) := pv_bad l 62 (peekE_62 h16 hm hcl) (by decide)
    have HCV : Hid (decide ((l.drop 12).take 4 = Crcm.four (Crcm.sum (l.take 12))) = false) := by show _ = _; rw [← HC16.out]; exact hcl
    clear hb hcell e0 hne hm hn hl hcap h16 hcl
    go_enter Tryd.func18, Tryd.ntmps18
    go_wp2
    go_region_held3 (fun w' => True) (trivial) (first
      | (go_at_call 20; refine (rsum_any (l.take 12) 12 _ _ _ HL12.out (((HB.out.take 12).drewN 1)) (by rw [HL12.out]; unfold maxLen; omega)).mono ?_; rintro r w1 ⟨rfl, rfl⟩)
      | (go_at_call 19; refine (rfour_any _ _ HS12.out).mono ?_; rintro r w2 ⟨g2, rfl, hy2, hb2⟩; have HB2 : Hid (Below w.heap.size w w2) := (below_drewN (Below.refl _ _) 1).trans hb2; have HY2 : Hid (Bytes w2 (some ⟨g2, 0, none⟩) (Crcm.four (Crcm.sum (l.take 12)))) := hy2; clear hb2 hy2)
      | (go_at_call 15; refine (same_at ((l.drop 12).take 4) (Crcm.four (Crcm.sum (l.take 12))) 4 4 _ _ _ _ _ HL4.out rfl (bytes_sub (HB.out.keep HB2.out) 12 4) HY2.out (by rw [HL4.out]; unfold maxLen; omega) (by show 4 ≤ _; unfold maxLen; omega)).mono ?_; rw [HCV.out]; rintro r w3 ⟨rfl, q3, rfl⟩))
    all_goals go_wp2
    all_goals exact bodyPost_ret (v := .tuple #[.int .i64 0, .int .i64 0, .int .i64 0, .int .i64 62]) (by simp [results, Tryd.results18, go_sem]) rfl ⟨by rw [HP.out]; rfl, below_drewN HB2.out q3⟩
  have HCV : Hid (decide ((l.drop 12).take 4 = Crcm.four (Crcm.sum (l.take 12))) = true) := by show _ = _; rw [← HC16.out]; simpa using hcl
  obtain ⟨x1, e1⟩ : ∃ x, l.getD 1 0 = x := ⟨_, rfl⟩
  obtain ⟨x2, e2⟩ : ∃ x, l.getD 2 0 = x := ⟨_, rfl⟩
  obtain ⟨x3, e3⟩ : ∃ x, l.getD 3 0 = x := ⟨_, rfl⟩
  obtain ⟨x10, e10⟩ : ∃ x, l.getD 10 0 = x := ⟨_, rfl⟩
  obtain ⟨x11, e11⟩ : ∃ x, l.getD 11 0 = x := ⟨_, rfl⟩
  have hx1 : x1 < 256 := by rw [← e1]; exact hb.1 1
  have hx2 : x2 < 256 := by rw [← e2]; exact hb.1 2
  have hx3 : x3 < 256 := by rw [← e3]; exact hb.1 3
  have hx10 : x10 < 256 := by rw [← e10]; exact hb.1 10
  have hx11 : x11 < 256 := by rw [← e11]; exact hb.1 11
  have HD : Hid (∀ w', Below w.heap.size w w' → w'.cell? ⟨b, off + 1, none⟩ = some (.int .u8 (x1 : Int)) ∧ w'.cell? ⟨b, off + 2, none⟩ = some (.int .u8 (x2 : Int)) ∧ w'.cell? ⟨b, off + 3, none⟩ = some (.int .u8 (x3 : Int)) ∧ w'.cell? ⟨b, off + 10, none⟩ = some (.int .u8 (x10 : Int)) ∧ w'.cell? ⟨b, off + 11, none⟩ = some (.int .u8 (x11 : Int))) := fun w' hw' => ⟨by rw [← e1]; exact HCELL.out w' hw' 1 (by omega), by rw [← e2]; exact HCELL.out w' hw' 2 (by omega), by rw [← e3]; exact HCELL.out w' hw' 3 (by omega), by rw [← e10]; exact HCELL.out w' hw' 10 (by omega), by rw [← e11]; exact HCELL.out w' hw' 11 (by omega)⟩
  obtain ⟨s6, hs6⟩ : ∃ s6, Crcm.val ((l.drop 4).take 6) = s6 := ⟨_, rfl⟩
  have HPN : Hid (pn l = x2 + 256 * x3) := by show _ = _; unfold pn; rw [e2, e3]
  have HPK : Hid (pk l = x1) := e1
  have HPB : Hid (ps l ≤ 1099511627776 ↔ x10 = 0 ∧ x11 = 0 ∧ s6 ≤ 1099511627776) := by
    have h := ps_bound l (by omega) hb.1
    rw [e10, e11, hs6] at h
    exact h
  have HPL : Hid (x10 = 0 → x11 = 0 → ps l = s6) := fun h1 h2 => by rw [← hs6]; exact (ps_low l (by omega) (e10.trans h1) (e11.trans h2)).symm
  have hs6l : s6 < 281474976710656 := by rw [← hs6]; exact val6_lt l hb.mem 4 6 (by omega)
  have HS6 : Hid (hi6 l 3 = s6) := hs6
  have HBAD : Hid (¬ (x2 + 256 * x3 ≤ 16384 ∧ 1 ≤ x1 ∧ x1 ≤ 7 ∧ x10 = 0 ∧ x11 = 0 ∧ s6 ≤ 1099511627776) → PV l = .tuple #[.int .i64 0, .int .i64 0, .int .i64 0, .int .i64 63]) := fun hh => pv_bad l 63 (peekE_63 h16 hm hcl (by rw [HPN.out, HPK.out, HPB.out]; exact hh)) (by decide)
  have HGOOD : Hid ((x2 + 256 * x3 ≤ 16384 ∧ 1 ≤ x1 ∧ x1 ≤ 7 ∧ x10 = 0 ∧ x11 = 0 ∧ s6 ≤ 1099511627776) → PV l = .tuple #[.int .i64 (x1 : Int), .int .i64 (s6 : Int), .int .i64 (20 + ((x2 : Int) + 256 * (x3 : Int))), .int .i64 0]) := fun hh => by
    rw [pv_good l (peekE_0 h16 hm hcl (by rw [HPN.out, HPK.out, HPB.out]; exact hh)), HPN.out, HPK.out, HPL.out hh.2.2.2.1 hh.2.2.2.2.1, show ((x2 + 256 * x3 : Nat) : Int) + 20 = 20 + ((x2 : Int) + 256 * (x3 : Int)) from by omega]
  have HMEM : Hid (∀ x ∈ l, x < 256) := hb.mem
  have HLEN : Hid (16 ≤ l.length) := by show _ ≤ _; omega
  clear hb hcell e0 hne hm hn hl hcap h16 hcl e1 e2 e3 e10 e11 hs6
  by_cases z10 : x10 = 0
  · have HZ10 : Hid (x10 = 0) := z10
    have z10I : ((x10 : Int) != 0) = false := by simp; omega
    by_cases z11 : x11 = 0
    · have HZ11 : Hid (x11 = 0) := z11
      have z11I : ((x11 : Int) != 0) = false := by simp; omega
      clear z10 z11
      go_enter Tryd.func18, Tryd.ntmps18
      go_wp2
      go_region_held3 (fun w' => True) (trivial) (first
        | (go_at_call 20; refine (rsum_any (l.take 12) 12 _ _ _ HL12.out (((HB.out.take 12).drewN 1)) (by rw [HL12.out]; unfold maxLen; omega)).mono ?_; rintro r w1 ⟨rfl, rfl⟩)
        | (go_at_call 19; refine (rfour_any _ _ HS12.out).mono ?_; rintro r w2 ⟨g2, rfl, hy2, hb2⟩; have HB2 : Hid (Below w.heap.size w w2) := (below_drewN (Below.refl _ _) 1).trans hb2; have HY2 : Hid (Bytes w2 (some ⟨g2, 0, none⟩) (Crcm.four (Crcm.sum (l.take 12)))) := hy2; clear hb2 hy2)
        | (go_at_call 15; refine (same_at ((l.drop 12).take 4) (Crcm.four (Crcm.sum (l.take 12))) 4 4 _ _ _ _ _ HL4.out rfl (bytes_sub (HB.out.keep HB2.out) 12 4) HY2.out (by rw [HL4.out]; unfold maxLen; omega) (by show 4 ≤ _; unfold maxLen; omega)).mono ?_; rw [HCV.out]; rintro r w3 ⟨rfl, q3, rfl⟩))
      obtain ⟨d1, d2, d3, d10, d11⟩ := HD.out w2 HB2.out
      have h2n : (2 : Int) < (n : Int) := by omega
      have h3n : (3 : Int) < (n : Int) := by omega
      have h1n : (1 : Int) < (n : Int) := by omega
      have h10n : (10 : Int) < (n : Int) := by omega
      have h11n : (11 : Int) < (n : Int) := by omega
      go_wp2
      go_quiet (fail)
      go_wp2
      obtain ⟨WX, hWX⟩ : ∃ WX, w2.drewN (q3 + nq) = WX := ⟨_, rfl⟩
      try rw [hWX]
      have HBE : Hid (Below w.heap.size w WX) := by rw [← hWX]; exact below_drewN HB2.out _
      have HCX : Hid (∀ i, i < 16 → WX.cell? ⟨b, off + i, none⟩ = some (.int .u8 (l.getD i 0 : Nat))) := fun i hi => HCELL.out WX HBE.out i hi
      obtain ⟨f1, f2, f3, f10, f11⟩ := HD.out WX HBE.out
      clear hWX d1 d2 d3 d10 d11 HD HCELL HY2 HB2 HL12 HL4 HS12 HC16 HCV
      go_loop [8, 9] (fun vs vi => ∃ i : Nat, 3 ≤ i ∧ i ≤ 9 ∧ vi = .int .i64 i ∧ vs = .int .i64 (hi6 l i : Nat)) (fun _ vi => (intOf vi).toNat)
      case atStart => exact ⟨9, by omega, by omega, rfl, by simp [hi6, Crcm.val]⟩
      case round =>
        obtain ⟨i, hi3, hi9, rfl, rfl⟩ := hrel
        by_cases h4 : 4 ≤ i
        · have hc := HCX.out i (by omega)
          have hst := hi6_step l i HLEN.out h4 hi9
          have hlt6 : Crcm.val ((l.drop i).take (10 - i)) < 281474976710656 := val6_lt l HMEM.out i (10 - i) (by omega)
          have HN : Hid (256 * hi6 l i + l.getD i 0 = hi6 l (i - 1)) := by show _ = _; rw [hst]; unfold hi6; rw [show i - 1 + 1 = i from by omega, show 9 - (i - 1) = 10 - i from by omega]
          have hs9 : 256 * hi6 l i + l.getD i 0 < 281474976710656 := by omega
          obtain ⟨c, hcE⟩ : ∃ c, l.getD i 0 = c := ⟨_, rfl⟩
          obtain ⟨S, hS⟩ : ∃ S, hi6 l i = S := ⟨_, rfl⟩
          rw [hcE] at hc hs9 HN
          rw [hS] at hs9 HN ⊢
          have hsI : 256 * (S : Int) + (c : Int) < 281474976710656 := by omega
          have hsJ : 256 * (S : Int) < 281474976710656 := by omega
          have hiN : (i : Int) < (n : Int) := by omega
          have h4I : (4 : Int) ≤ (i : Int) := by omega
          have hi9I : (i : Int) ≤ 9 := by omega
          clear hst hlt6 hcE hS hs9
          go_wp2
          go_round
          case rel => exact ⟨i - 1, by omega, by omega, by go_num, by rw [← HN.out]; go_num⟩
          case measure => simp [intOf]; omega
        · obtain rfl : i = 3 := by omega
          rw [HS6.out]
          have hs6I : (s6 : Int) < 281474976710656 := by omega
          by_cases q1 : x1 < 1
          · have q1I : (x1 : Int) < 1 := by omega
            have HP : Hid (PV l = _) := HBAD.out (by first | omega | (have h1 := HZ10.out; omega) | (have h1 := HZ10.out; have h2 := HZ11.out; omega))
            go_wp2
            exact bodyPost_ret (v := .tuple #[.int .i64 0, .int .i64 0, .int .i64 0, .int .i64 63]) (by simp [results, Tryd.results18, go_sem]) rfl ⟨by rw [HP.out], HBE.out⟩
          have q1I : (1 : Int) ≤ (x1 : Int) := by omega
          by_cases q2 : 7 < x1
          · have q2I : (7 : Int) < (x1 : Int) := by omega
            have HP : Hid (PV l = _) := HBAD.out (by first | omega | (have h1 := HZ10.out; omega) | (have h1 := HZ10.out; have h2 := HZ11.out; omega))
            go_wp2
            exact bodyPost_ret (v := .tuple #[.int .i64 0, .int .i64 0, .int .i64 0, .int .i64 63]) (by simp [results, Tryd.results18, go_sem]) rfl ⟨by rw [HP.out], HBE.out⟩
          have q2I : (x1 : Int) ≤ 7 := by omega
          by_cases q3 : 16384 < x2 + 256 * x3
          · have q3I : (16384 : Int) < (x2 : Int) + 256 * (x3 : Int) := by omega
            have HP : Hid (PV l = _) := HBAD.out (by first | omega | (have h1 := HZ10.out; omega) | (have h1 := HZ10.out; have h2 := HZ11.out; omega))
            go_wp2
            exact bodyPost_ret (v := .tuple #[.int .i64 0, .int .i64 0, .int .i64 0, .int .i64 63]) (by simp [results, Tryd.results18, go_sem]) rfl ⟨by rw [HP.out], HBE.out⟩
          have q3I : (x2 : Int) + 256 * (x3 : Int) ≤ 16384 := by omega
          by_cases q4 : 1099511627776 < s6
          · have q4I : (1099511627776 : Int) < (s6 : Int) := by omega
            have HP : Hid (PV l = _) := HBAD.out (by first | omega | (have h1 := HZ10.out; omega) | (have h1 := HZ10.out; have h2 := HZ11.out; omega))
            go_wp2
            exact bodyPost_ret (v := .tuple #[.int .i64 0, .int .i64 0, .int .i64 0, .int .i64 63]) (by simp [results, Tryd.results18, go_sem]) rfl ⟨by rw [HP.out], HBE.out⟩
          have q4I : (s6 : Int) ≤ 1099511627776 := by omega
          have HP : Hid (PV l = _) := HGOOD.out (by have h1 := HZ10.out; have h2 := HZ11.out; omega)
          clear q4 q1 q2 q3 hs6l hs6I hlI
          go_wp2
          exact bodyPost_ret (v := .tuple #[.int .i64 (x1 : Int), .int .i64 (s6 : Int), .int .i64 (20 + ((x2 : Int) + 256 * (x3 : Int))), .int .i64 0]) (by simp [results, Tryd.results18, go_sem]) rfl ⟨by rw [HP.out], HBE.out⟩
    · have z11I : ((x11 : Int) != 0) = true := by simp; omega
      clear z10
      go_enter Tryd.func18, Tryd.ntmps18
      go_wp2
      go_region_held3 (fun w' => True) (trivial) (first
        | (go_at_call 20; refine (rsum_any (l.take 12) 12 _ _ _ HL12.out (((HB.out.take 12).drewN 1)) (by rw [HL12.out]; unfold maxLen; omega)).mono ?_; rintro r w1 ⟨rfl, rfl⟩)
        | (go_at_call 19; refine (rfour_any _ _ HS12.out).mono ?_; rintro r w2 ⟨g2, rfl, hy2, hb2⟩; have HB2 : Hid (Below w.heap.size w w2) := (below_drewN (Below.refl _ _) 1).trans hb2; have HY2 : Hid (Bytes w2 (some ⟨g2, 0, none⟩) (Crcm.four (Crcm.sum (l.take 12)))) := hy2; clear hb2 hy2)
        | (go_at_call 15; refine (same_at ((l.drop 12).take 4) (Crcm.four (Crcm.sum (l.take 12))) 4 4 _ _ _ _ _ HL4.out rfl (bytes_sub (HB.out.keep HB2.out) 12 4) HY2.out (by rw [HL4.out]; unfold maxLen; omega) (by show 4 ≤ _; unfold maxLen; omega)).mono ?_; rw [HCV.out]; rintro r w3 ⟨rfl, q3, rfl⟩))
      obtain ⟨d1, d2, d3, d10, d11⟩ := HD.out w2 HB2.out
      have h2n : (2 : Int) < (n : Int) := by omega
      have h3n : (3 : Int) < (n : Int) := by omega
      have h1n : (1 : Int) < (n : Int) := by omega
      have h10n : (10 : Int) < (n : Int) := by omega
      have h11n : (11 : Int) < (n : Int) := by omega
      go_wp2
      go_quiet (fail)
      go_wp2
      obtain ⟨WX, hWX⟩ : ∃ WX, w2.drewN (q3 + nq) = WX := ⟨_, rfl⟩
      try rw [hWX]
      have HBE : Hid (Below w.heap.size w WX) := by rw [← hWX]; exact below_drewN HB2.out _
      have HCX : Hid (∀ i, i < 16 → WX.cell? ⟨b, off + i, none⟩ = some (.int .u8 (l.getD i 0 : Nat))) := fun i hi => HCELL.out WX HBE.out i hi
      obtain ⟨f1, f2, f3, f10, f11⟩ := HD.out WX HBE.out
      clear hWX d1 d2 d3 d10 d11 HD HCELL HY2 HB2 HL12 HL4 HS12 HC16 HCV
      go_loop [8, 9] (fun vs vi => ∃ i : Nat, 3 ≤ i ∧ i ≤ 9 ∧ vi = .int .i64 i ∧ vs = .int .i64 (hi6 l i : Nat)) (fun _ vi => (intOf vi).toNat)
      case atStart => exact ⟨9, by omega, by omega, rfl, by simp [hi6, Crcm.val]⟩
      case round =>
        obtain ⟨i, hi3, hi9, rfl, rfl⟩ := hrel
        by_cases h4 : 4 ≤ i
        · have hc := HCX.out i (by omega)
          have hst := hi6_step l i HLEN.out h4 hi9
          have hlt6 : Crcm.val ((l.drop i).take (10 - i)) < 281474976710656 := val6_lt l HMEM.out i (10 - i) (by omega)
          have HN : Hid (256 * hi6 l i + l.getD i 0 = hi6 l (i - 1)) := by show _ = _; rw [hst]; unfold hi6; rw [show i - 1 + 1 = i from by omega, show 9 - (i - 1) = 10 - i from by omega]
          have hs9 : 256 * hi6 l i + l.getD i 0 < 281474976710656 := by omega
          obtain ⟨c, hcE⟩ : ∃ c, l.getD i 0 = c := ⟨_, rfl⟩
          obtain ⟨S, hS⟩ : ∃ S, hi6 l i = S := ⟨_, rfl⟩
          rw [hcE] at hc hs9 HN
          rw [hS] at hs9 HN ⊢
          have hsI : 256 * (S : Int) + (c : Int) < 281474976710656 := by omega
          have hsJ : 256 * (S : Int) < 281474976710656 := by omega
          have hiN : (i : Int) < (n : Int) := by omega
          have h4I : (4 : Int) ≤ (i : Int) := by omega
          have hi9I : (i : Int) ≤ 9 := by omega
          clear hst hlt6 hcE hS hs9
          go_wp2
          go_round
          case rel => exact ⟨i - 1, by omega, by omega, by go_num, by rw [← HN.out]; go_num⟩
          case measure => simp [intOf]; omega
        · obtain rfl : i = 3 := by omega
          rw [HS6.out]
          have hs6I : (s6 : Int) < 281474976710656 := by omega
          by_cases q1 : x1 < 1
          · have q1I : (x1 : Int) < 1 := by omega
            have HP : Hid (PV l = _) := HBAD.out (by first | omega | (have h1 := HZ10.out; omega) | (have h1 := HZ10.out; have h2 := HZ11.out; omega))
            go_wp2
            exact bodyPost_ret (v := .tuple #[.int .i64 0, .int .i64 0, .int .i64 0, .int .i64 63]) (by simp [results, Tryd.results18, go_sem]) rfl ⟨by rw [HP.out], HBE.out⟩
          have q1I : (1 : Int) ≤ (x1 : Int) := by omega
          by_cases q2 : 7 < x1
          · have q2I : (7 : Int) < (x1 : Int) := by omega
            have HP : Hid (PV l = _) := HBAD.out (by first | omega | (have h1 := HZ10.out; omega) | (have h1 := HZ10.out; have h2 := HZ11.out; omega))
            go_wp2
            exact bodyPost_ret (v := .tuple #[.int .i64 0, .int .i64 0, .int .i64 0, .int .i64 63]) (by simp [results, Tryd.results18, go_sem]) rfl ⟨by rw [HP.out], HBE.out⟩
          have q2I : (x1 : Int) ≤ 7 := by omega
          by_cases q3 : 16384 < x2 + 256 * x3
          · have q3I : (16384 : Int) < (x2 : Int) + 256 * (x3 : Int) := by omega
            have HP : Hid (PV l = _) := HBAD.out (by first | omega | (have h1 := HZ10.out; omega) | (have h1 := HZ10.out; have h2 := HZ11.out; omega))
            go_wp2
            exact bodyPost_ret (v := .tuple #[.int .i64 0, .int .i64 0, .int .i64 0, .int .i64 63]) (by simp [results, Tryd.results18, go_sem]) rfl ⟨by rw [HP.out], HBE.out⟩
          have q3I : (x2 : Int) + 256 * (x3 : Int) ≤ 16384 := by omega
          have HP : Hid (PV l = _) := HBAD.out (by first | omega | (have h1 := HZ10.out; omega) | (have h1 := HZ10.out; have h2 := HZ11.out; omega))
          go_wp2
          exact bodyPost_ret (v := .tuple #[.int .i64 0, .int .i64 0, .int .i64 0, .int .i64 63]) (by simp [results, Tryd.results18, go_sem]) rfl ⟨by rw [HP.out], HBE.out⟩
  · have z10I : ((x10 : Int) != 0) = true := by simp; omega
    go_enter Tryd.func18, Tryd.ntmps18
    go_wp2
    go_region_held3 (fun w' => True) (trivial) (first
      | (go_at_call 20; refine (rsum_any (l.take 12) 12 _ _ _ HL12.out (((HB.out.take 12).drewN 1)) (by rw [HL12.out]; unfold maxLen; omega)).mono ?_; rintro r w1 ⟨rfl, rfl⟩)
      | (go_at_call 19; refine (rfour_any _ _ HS12.out).mono ?_; rintro r w2 ⟨g2, rfl, hy2, hb2⟩; have HB2 : Hid (Below w.heap.size w w2) := (below_drewN (Below.refl _ _) 1).trans hb2; have HY2 : Hid (Bytes w2 (some ⟨g2, 0, none⟩) (Crcm.four (Crcm.sum (l.take 12)))) := hy2; clear hb2 hy2)
      | (go_at_call 15; refine (same_at ((l.drop 12).take 4) (Crcm.four (Crcm.sum (l.take 12))) 4 4 _ _ _ _ _ HL4.out rfl (bytes_sub (HB.out.keep HB2.out) 12 4) HY2.out (by rw [HL4.out]; unfold maxLen; omega) (by show 4 ≤ _; unfold maxLen; omega)).mono ?_; rw [HCV.out]; rintro r w3 ⟨rfl, q3, rfl⟩))
    obtain ⟨d1, d2, d3, d10, d11⟩ := HD.out w2 HB2.out
    have h2n : (2 : Int) < (n : Int) := by omega
    have h3n : (3 : Int) < (n : Int) := by omega
    have h1n : (1 : Int) < (n : Int) := by omega
    have h10n : (10 : Int) < (n : Int) := by omega
    have h11n : (11 : Int) < (n : Int) := by omega
    go_wp2
    go_quiet (fail)
    go_wp2
    obtain ⟨WX, hWX⟩ : ∃ WX, w2.drewN (q3 + nq) = WX := ⟨_, rfl⟩
    try rw [hWX]
    have HBE : Hid (Below w.heap.size w WX) := by rw [← hWX]; exact below_drewN HB2.out _
    have HCX : Hid (∀ i, i < 16 → WX.cell? ⟨b, off + i, none⟩ = some (.int .u8 (l.getD i 0 : Nat))) := fun i hi => HCELL.out WX HBE.out i hi
    obtain ⟨f1, f2, f3, f10, f11⟩ := HD.out WX HBE.out
    clear hWX d1 d2 d3 d10 d11 HD HCELL HY2 HB2 HL12 HL4 HS12 HC16 HCV
    go_loop [8, 9] (fun vs vi => ∃ i : Nat, 3 ≤ i ∧ i ≤ 9 ∧ vi = .int .i64 i ∧ vs = .int .i64 (hi6 l i : Nat)) (fun _ vi => (intOf vi).toNat)
    case atStart => exact ⟨9, by omega, by omega, rfl, by simp [hi6, Crcm.val]⟩
    case round =>
      obtain ⟨i, hi3, hi9, rfl, rfl⟩ := hrel
      by_cases h4 : 4 ≤ i
      · have hc := HCX.out i (by omega)
        have hst := hi6_step l i HLEN.out h4 hi9
        have hlt6 : Crcm.val ((l.drop i).take (10 - i)) < 281474976710656 := val6_lt l HMEM.out i (10 - i) (by omega)
        have HN : Hid (256 * hi6 l i + l.getD i 0 = hi6 l (i - 1)) := by show _ = _; rw [hst]; unfold hi6; rw [show i - 1 + 1 = i from by omega, show 9 - (i - 1) = 10 - i from by omega]
        have hs9 : 256 * hi6 l i + l.getD i 0 < 281474976710656 := by omega
        obtain ⟨c, hcE⟩ : ∃ c, l.getD i 0 = c := ⟨_, rfl⟩
        obtain ⟨S, hS⟩ : ∃ S, hi6 l i = S := ⟨_, rfl⟩
        rw [hcE] at hc hs9 HN
        rw [hS] at hs9 HN ⊢
        have hsI : 256 * (S : Int) + (c : Int) < 281474976710656 := by omega
        have hsJ : 256 * (S : Int) < 281474976710656 := by omega
        have hiN : (i : Int) < (n : Int) := by omega
        have h4I : (4 : Int) ≤ (i : Int) := by omega
        have hi9I : (i : Int) ≤ 9 := by omega
        clear hst hlt6 hcE hS hs9
        go_wp2
        go_round
        case rel => exact ⟨i - 1, by omega, by omega, by go_num, by rw [← HN.out]; go_num⟩
        case measure => simp [intOf]; omega
      · obtain rfl : i = 3 := by omega
        rw [HS6.out]
        have hs6I : (s6 : Int) < 281474976710656 := by omega
        by_cases q1 : x1 < 1
        · have q1I : (x1 : Int) < 1 := by omega
          have HP : Hid (PV l = _) := HBAD.out (by first | omega | (have h1 := HZ10.out; omega) | (have h1 := HZ10.out; have h2 := HZ11.out; omega))
          go_wp2
          exact bodyPost_ret (v := .tuple #[.int .i64 0, .int .i64 0, .int .i64 0, .int .i64 63]) (by simp [results, Tryd.results18, go_sem]) rfl ⟨by rw [HP.out], HBE.out⟩
        have q1I : (1 : Int) ≤ (x1 : Int) := by omega
        by_cases q2 : 7 < x1
        · have q2I : (7 : Int) < (x1 : Int) := by omega
          have HP : Hid (PV l = _) := HBAD.out (by first | omega | (have h1 := HZ10.out; omega) | (have h1 := HZ10.out; have h2 := HZ11.out; omega))
          go_wp2
          exact bodyPost_ret (v := .tuple #[.int .i64 0, .int .i64 0, .int .i64 0, .int .i64 63]) (by simp [results, Tryd.results18, go_sem]) rfl ⟨by rw [HP.out], HBE.out⟩
        have q2I : (x1 : Int) ≤ 7 := by omega
        by_cases q3 : 16384 < x2 + 256 * x3
        · have q3I : (16384 : Int) < (x2 : Int) + 256 * (x3 : Int) := by omega
          have HP : Hid (PV l = _) := HBAD.out (by first | omega | (have h1 := HZ10.out; omega) | (have h1 := HZ10.out; have h2 := HZ11.out; omega))
          go_wp2
          exact bodyPost_ret (v := .tuple #[.int .i64 0, .int .i64 0, .int .i64 0, .int .i64 63]) (by simp [results, Tryd.results18, go_sem]) rfl ⟨by rw [HP.out], HBE.out⟩
        have q3I : (x2 : Int) + 256 * (x3 : Int) ≤ 16384 := by omega
        have HP : Hid (PV l = _) := HBAD.out (by first | omega | (have h1 := HZ10.out; omega) | (have h1 := HZ10.out; have h2 := HZ11.out; omega))
        go_wp2
        exact bodyPost_ret (v := .tuple #[.int .i64 0, .int .i64 0, .int .i64 0, .int .i64 63]) (by simp [results, Tryd.results18, go_sem]) rfl ⟨by rw [HP.out], HBE.out⟩
end Go.Proofs.YtpjikkhcimghaaaDoor
