/- Own texts, joined: Fr6, Fr8, Copy, Fr9. -/
import Derived.Test.YtaegmeilhdbnnaaDoorJ03
import Derived.Test.YtaegmeilhdbnnaaDoorJ05
import Derived.Deep.RegionHeld3
import Derived.Test.YtaegmeilhdbnnaaDoorRows
import Derived.Test.YtaegmeilhdbnnaaDoorJ00
namespace Go.Proofs.YtaegmeilhdbnnaaDoor
open Go.ChangeShapes Go.WideShapes Go.ChangeAt Go.RowKit
set_option linter.unusedVariables false
set_option maxRecDepth 20000 in
set_option maxHeartbeats 1000000 in
theorem fsame_any (k1 s1 k2 s2 : Int) (l m : List Nat) (n1 n2 : Nat) (a1 a2 : Option Addr) (c1 c2 : Nat) (w : World) (e1 : l.length = n1) (e2 : m.length = n2) (hb1 : Bytes w a1 l) (hb2 : Bytes w a2 m) (hl : n1 ≤ maxLen) (hm : n2 ≤ maxLen) (hk : k1 = k2) (hs : s1 = s2) :
    Calls Tryd.prog 44 #[FrV k1 s1 (.slice a1 n1 c1), FrV k2 s2 (.slice a2 n2 c2)] w fun e w' => e = .returned (.bool (decide (l = m))) ∧ Below w.heap.size w w' := by
  subst hk hs
  have HBB : Hid (Below w.heap.size w ((w.alloc (.cells #[.int .i64 k1, .int .i64 s1, .slice a1 n1 c1] 65)).alloc (.cells #[.int .i64 k1, .int .i64 s1, .slice a2 n2 c2] 65))) := ((Below.refl _ _).alloc (Nat.le_refl _) _).alloc (by simp) _
  have HSM : Hid (∀ w', Below w.heap.size w w' → Calls Tryd.prog 12 #[.slice a1 n1 c1, .slice a2 n2 c2] w' fun e w'' => e = .returned (.bool (decide (l = m))) ∧ ∃ n, w'' = w'.drewN n) := fun w' hw' => same_at l m n1 n2 a1 a2 c1 c2 w' e1 e2 (hb1.keep hw') (hb2.keep hw') (by omega) (by omega)
  clear hb1 hb2 e1 e2 hl hm
  go_enter Tryd.func44, Tryd.ntmps44
  go_wp2_with (go_at_call 12; refine (HSM.out _ HBB.out).mono ?_; rintro r w1 ⟨rfl, nq, rfl⟩)
  all_goals go_ret
  all_goals exact ⟨by first | rfl | simp_all, below_drewN HBB.out nq⟩
theorem cells_four (w : World) (x y z t : Value) (e : TypeId) : ∀ j u, [x, y, z, t][j]? = some u → (w.alloc (.cells #[x, y, z, t] e)).cell? ((⟨w.heap.size, 0, none⟩ : Addr).add j) = some u := by
  intro j u hj
  match j, hj with
  | 0, hj => simp at hj; subst hj; simp [Addr.add]
  | 1, hj => simp at hj; subst hj; simp [Addr.add]
  | 2, hj => simp at hj; subst hj; simp [Addr.add]
  | 3, hj => simp at hj; subst hj; simp [Addr.add]
theorem own_lit (w : World) (l : List Nat) (h : ∀ i, l.getD i 0 < 256) (hm : l.length ≤ maxLen) : Own (w.alloc (.cells (B8 l).toArray 5)) w.heap.size (.slice (some ⟨w.heap.size, 0, none⟩) l.length l.length) l :=
  ⟨h, own_of_heap (Nat.le_refl _) hm (by simp [B8]) (by simp only [World.alloc, Array.getElem?_push]; rw [if_pos trivial])⟩
set_option maxRecDepth 20000 in
set_option maxHeartbeats 1000000 in
theorem rhead_any (k n s : Nat) (w : World) (hk : k ≤ 7) (hn : n ≤ 16384) (hs : s ≤ 1099511627776) :
    Calls Tryd.prog 54 #[.int .i64 k, .int .i64 n, .int .i64 s] w fun e w' => ∃ g cap, e = .returned (.slice (some ⟨g, 0, none⟩) 16 cap) ∧ Own w' w.heap.size (.slice (some ⟨g, 0, none⟩) 16 cap) (headL k n s) ∧ Below w.heap.size w w' := by
  obtain ⟨i0, hi, hz0, hz1, hz2⟩ := info_parts Tryd.info5f
  have hkI : (k : Int) ≤ 7 := by omega
  have hnI : (n : Int) ≤ 16384 := by omega
  have hsI : (s : Int) ≤ 1099511627776 := by omega
  have HO : Hid (Own (w.alloc (.cells #[.int .u8 165, .int .u8 (k : Int), .int .u8 ((n : Int) % 256), .int .u8 ((n : Int) / 256)] 5)) w.heap.size (.slice (some ⟨w.heap.size, 0, none⟩) 4 4) [165, k, n % 256, n / 256]) := by
    have h := own_lit w [165, k, n % 256, n / 256] (getD_lt (by intro x hx; simp at hx; omega)) (by simp [maxLen])
    have e : (B8 [165, k, n % 256, n / 256]).toArray = #[.int .u8 165, .int .u8 (k : Int), .int .u8 ((n : Int) % 256), .int .u8 ((n : Int) / 256)] := by
      simp [B8]
    rw [e] at h
    exact h
  have HHL : Hid (∀ i, (head12 k n s).getD i 0 < 256) := fun i => getD_lt (head12_lt k n s (by omega)) i
  have HHS : Hid (Crcm.sum (head12 k n s) < 4294967296) := Crcm.sum_lt _ (head12_lt k n s (by omega))
  have HH : Hid ([165, k, n % 256, n / 256] ++ le 8 s = head12 k n s) := by
    show _ = _
    unfold head12
    rw [le2, show n / 256 % 256 = n / 256 from by omega]
    rfl
  have HHF : Hid (∀ i, (headL k n s).getD i 0 < 256) := fun i => getD_lt (headL_lt k n s (by omega)) i
  go_enter Tryd.func54, Tryd.ntmps54
  go_wp2
  go_loopw [2, 7, 8] (fun vs vb vi wr => ∃ (j y : Nat), vi = .int .i64 j ∧ vs = .int .i64 y ∧ y = s / 256 ^ j ∧ y ≤ 1099511627776 ∧ j ≤ 8 ∧ Own wr w.heap.size vb ([165, k, n % 256, n / 256] ++ le j s) ∧ Below w.heap.size w wr) (fun _ _ vi _ => 8 - (intOf vi).toNat)
  case atStart => exact ⟨0, s, rfl, rfl, by simp, hs, Nat.zero_le _, by simpa [le] using HO.out, (Below.refl _ _).alloc (Nat.le_refl _) _⟩
  case round =>
    obtain ⟨j, y, rfl, rfl, hy, hyl, hj, ho, hbe⟩ := hrel
    have HY : Hid (y = s / 256 ^ j) := hy
    have hyI : (y : Int) ≤ 1099511627776 := by omega
    clear hy hyl HO
    have hsz := hbe.size
    have hlen : ([165, k, n % 256, n / 256] ++ le j s).length = 4 + j := by rw [List.length_append, le_length]; simp
    by_cases hlt : j < 8
    · have HU : Hid ((y : Int) % 256 = ((s / 256 ^ j % 256 : Nat) : Int)) := by show _ = _; rw [HY.out]; omega
      have HOJ : Hid (Own wr w.heap.size _ ([165, k, n % 256, n / 256] ++ le j s)) := ho
      have HLEN : Hid (([165, k, n % 256, n / 256] ++ le j s).length = 4 + j) := hlen
      clear hlen ho
      go_wp2_with (at_builtin; refine wpList_append_own _ rfl _ _ 22 rfl w.heap.size 5 i0 (.int .u8 0) 1 1 Tryd.underlying22 hi hz0 hz1 hz2 rfl (by decide) _ _ _ rfl (HOJ.out.2.alloc _) ⟨wr.heap.size, 0, none⟩ 1 1 [.int .u8 ((y : Int) % 256)] rfl rfl (cell_new _ _ _) (one_new _) (by rw [HLEN.out]; unfold maxLen; omega) (by rw [HLEN.out]; omega) (by simp; omega) ?_)
      intro v' w1 hown' hgrow _
      have hb1 := grown_row (hbe.alloc (by omega) _) (HOJ.out.2.alloc _) (by simp; omega) hgrow
      have HO1 : Hid (Own w1 w.heap.size v' ([165, k, n % 256, n / 256] ++ le (j + 1) s)) := by
        show Own _ _ _ _
        rw [le_snoc, ← List.append_assoc]
        refine Own.append HOJ.out.1 (getD_lt (by intro x hx; simp at hx; omega)) ?_
        rw [HU.out] at hown'
        exact hown'
      clear hgrow hbe hown' HOJ
      go_wp2
      go_roundw
      case rel =>
        refine ⟨j + 1, y / 256, by go_num, by go_num, ?_, by omega, by omega, HO1.out, hb1⟩
        rw [HY.out, Nat.div_div_eq_div_mul, Nat.pow_succ]
      case measure => simp [intOf]; omega
    · obtain rfl : j = 8 := by omega
      rw [HH.out] at ho
      obtain ⟨g, cap, hv, hcap, hby⟩ := ho.row (by simp [head12])
      rw [head12_length] at hv hcap
      subst hv
      have HO8 : Hid (Own wr w.heap.size (.slice (some ⟨g, 0, none⟩) 12 cap) (head12 k n s)) := ho
      have HBY : Hid (Bytes wr (some ⟨g, 0, none⟩) (head12 k n s)) := hby
      clear ho hby hlen
      go_wp2_with (first
        | (go_at_call 56; refine (rsum_any (head12 k n s) 12 _ _ _ (head12_length k n s) HBY.out (by rw [head12_length]; simp [maxLen])).mono ?_; rintro r w1 ⟨rfl, rfl⟩)
        | (go_at_call 55; refine (rfour_any _ _ HHS.out).mono ?_; rintro r w2 ⟨g2, rfl, hy2, hb2⟩; have ho2 := own_below HO8.out.2 hb2; have hs2 := hb2.size)
        | (at_builtin; refine wpList_append_own _ rfl _ _ 22 rfl w.heap.size 5 i0 (.int .u8 0) 1 1 Tryd.underlying22 hi hz0 hz1 hz2 rfl (by decide) _ _ _ rfl ho2 ⟨g2, 0, none⟩ 4 4 (B8 (Crcm.four (Crcm.sum (head12 k n s)))) rfl (B8_length _) (bytes_cells hy2) (B8_one _) (by rw [head12_length]; simp [maxLen]) (by rw [head12_length]; simp) (by omega) ?_; intro v3 w3 ho3 hg3 _; have hb3 := grown_row (hbe.trans (hb2.mono hsz)) ho2 (by omega) hg3; have HO3 : Hid (Own w3 w.heap.size v3 (headL k n s)) := Own.append HO8.out.1 (getD_lt (Crcm.four_lt _ HHS.out)) ho3; obtain ⟨g3, c3, hv3, hc3, _⟩ := HO3.out.row (by simp [headL, head12]); rw [headL_length] at hv3; subst hv3; clear hg3 ho3 ho2 hy2))
      go_ret
      exact ⟨g3, c3, rfl, HO3.out, hb3⟩
end Go.Proofs.YtaegmeilhdbnnaaDoor
namespace Go.Proofs.YtaegmeilhdbnnaaDoor
open Go.ChangeShapes Go.WideShapes Go.ChangeAt Go.RowKit
set_option linter.unusedVariables false
theorem closed16 (l : List Nat) (h : 16 ≤ l.length) : closedB (l.take 16) = decide ((l.drop 12).take 4 = Crcm.four (Crcm.sum (l.take 12))) := by
  unfold closedB
  have h1 : (l.take 16).length = 16 := by rw [List.length_take]; omega
  rw [h1, show 16 - 4 = 12 from rfl, List.take_take, show min 12 16 = 12 from rfl, List.drop_take, show 16 - 12 = 4 from rfl, decide_eq_decide]
  exact ⟨fun x => x.2, fun x => ⟨by omega, x⟩⟩
/-- the bytes from 9 down to i -/
def hi6 (l : List Nat) (i : Nat) : Nat := Crcm.val ((l.drop (i + 1)).take (9 - i))
theorem hi6_step (l : List Nat) (i : Nat) (hl : 16 ≤ l.length) (h4 : 4 ≤ i) (h9 : i ≤ 9) : 256 * hi6 l i + l.getD i 0 = Crcm.val ((l.drop i).take (10 - i)) := by
  have e : (l.drop i).take (10 - i) = l.getD i 0 :: (l.drop (i + 1)).take (9 - i) := by
    rw [drop_at l i _ (by omega) rfl, show 10 - i = (9 - i) + 1 from by omega, List.take_succ_cons]
  rw [e]
  show _ = l.getD i 0 + 256 * Crcm.val _
  unfold hi6
  omega
theorem val_take_lt (l : List Nat) (hl : ∀ x ∈ l, x < 256) (i k : Nat) : Crcm.val ((l.drop i).take k) < 256 ^ k := by
  have h := Crcm.val_lt ((l.drop i).take k) (fun x hx => hl x (List.mem_of_mem_drop (List.mem_of_mem_take hx)))
  have h2 : ((l.drop i).take k).length ≤ k := List.length_take_le _ _
  have h3 : 2 ^ (8 * ((l.drop i).take k).length) ≤ 2 ^ (8 * k) := Nat.pow_le_pow_right (by omega) (by omega)
  rw [show (256 : Nat) ^ k = 2 ^ (8 * k) from by rw [Nat.pow_mul]]
  omega
theorem ps_parts (l : List Nat) (hl : 16 ≤ l.length) : ps l = Crcm.val ((l.drop 4).take 6) + 281474976710656 * (l.getD 10 0 + 256 * l.getD 11 0) := by
  unfold ps
  have e : (l.drop 4).take 8 = (l.drop 4).take 6 ++ [l.getD 10 0, l.getD 11 0] := by
    rw [show 8 = 6 + 2 from rfl, List.take_add, List.drop_drop, show 4 + 6 = 10 from rfl, drop_at l 10 _ (by omega) rfl, drop_at l 11 _ (by omega) rfl]
    rfl
  have h6 : ((l.drop 4).take 6).length = 6 := by rw [List.length_take, List.length_drop]; omega
  rw [e, Crcm.val_append, h6]
  rfl
theorem ps_bound (l : List Nat) (hl : 16 ≤ l.length) (hb : ∀ i, l.getD i 0 < 256) : ps l ≤ 1099511627776 ↔ l.getD 10 0 = 0 ∧ l.getD 11 0 = 0 ∧ Crcm.val ((l.drop 4).take 6) ≤ 1099511627776 := by
  rw [ps_parts l hl]
  have := hb 10
  have := hb 11
  omega
/-- what daybookref11.Peek has read by the loop -/
theorem ps_low (l : List Nat) (hl : 16 ≤ l.length) (h10 : l.getD 10 0 = 0) (h11 : l.getD 11 0 = 0) : Crcm.val ((l.drop 4).take 6) = ps l := by
  rw [ps_parts l hl, h10, h11]
  omega
theorem val6_step (l : List Nat) (j : Nat) (hl : 16 ≤ l.length) (h6 : j < 6) : 256 * Crcm.val ((l.drop (10 - j)).take j) + l.getD (9 - j) 0 = Crcm.val ((l.drop (10 - (j + 1))).take (j + 1)) := by
  have e : (l.drop (10 - (j + 1))).take (j + 1) = l.getD (9 - j) 0 :: (l.drop (10 - j)).take j := by
    rw [show 10 - (j + 1) = 9 - j from by omega, drop_at l (9 - j) _ (by omega) rfl, List.take_succ_cons, show 9 - j + 1 = 10 - j from by omega]
  rw [e]
  show _ = l.getD (9 - j) 0 + 256 * Crcm.val _
  omega
theorem val6_lt (l : List Nat) (hl : ∀ x ∈ l, x < 256) (i j : Nat) (h6 : j ≤ 6) : Crcm.val ((l.drop i).take j) < 281474976710656 := by
  have h := val_take_lt l hl i j
  have h2 : 256 ^ j ≤ 256 ^ 6 := Nat.pow_le_pow_right (by omega) h6
  rw [show (256 : Nat) ^ 6 = 281474976710656 from by decide] at h2
  omega
set_option maxRecDepth 20000 in
set_option maxHeartbeats 1000000 in
theorem rpeek_any (l : List Nat) (n : Nat) (a : Option Addr) (cap : Nat) (w : World) (hn : l.length = n) (hb : Bytes w a l) (hl : l.length ≤ 281474976710656) (hcap : l.length ≤ cap) :
    Calls Tryd.prog 64 #[.slice a n cap] w fun e w' => e = .returned (PV l) ∧ Below w.heap.size w w' := by
  by_cases h16 : l.length < 16
  · have HP : Hid (PV l = _) := pv_bad l 60 (peekE_60 h16) (by decide)
    rw [hn] at h16
    have h16I : (n : Int) < 16 := by omega
    clear hb hl hcap h16 hn
    go_enter Tryd.func64, Tryd.ntmps64
    go_wp2
    exact bodyPost_ret (v := .tuple #[.int .i64 0, .int .i64 0, .int .i64 0, .int .i64 60]) (by simp [results, Tryd.results64, go_sem]) rfl ⟨by rw [HP.out]; rfl, Below.refl _ _⟩
  have hne : l ≠ [] := by intro h; subst h; simp at h16
  obtain ⟨b, off, rfl, hlt, hcell⟩ := hb.nonempty hne
  have c0 := hcell 0 (by omega)
  rw [Nat.add_zero] at c0
  obtain ⟨x0, e0⟩ : ∃ x, x = l.getD 0 0 := ⟨_, rfl⟩
  rw [← e0] at c0
  have hx0 : x0 < 256 := by rw [e0]; exact hb.1 0
  have h16n : 16 ≤ n := by omega
  have h16I : ¬ (n : Int) < 16 := by omega
  have h16J : (16 : Int) ≤ (n : Int) := by omega
  have hlI : (n : Int) ≤ 281474976710656 := by omega
  by_cases hm : l.getD 0 0 ≠ 165
  · have HP : Hid (PV l = _) := pv_bad l 61 (peekE_61 h16 hm) (by decide)
    have hx : ((x0 : Int) != 165) = true := by simp; omega
    clear hb hcell e0 hne hm hn hl hcap h16
    go_enter Tryd.func64, Tryd.ntmps64
    go_wp2
    exact bodyPost_ret (v := .tuple #[.int .i64 0, .int .i64 0, .int .i64 0, .int .i64 61]) (by simp [results, Tryd.results64, go_sem]) rfl ⟨by rw [HP.out]; rfl, Below.refl _ _⟩
  have hx : ((x0 : Int) != 165) = false := by simp; omega
  have HB : Hid (Bytes w (some ⟨b, off, none⟩) l) := hb
  have HL12 : Hid ((l.take 12).length = 12) := by show _ = _; rw [List.length_take]; omega
  have HL4 : Hid (((l.drop 12).take 4).length = 4) := by show _ = _; rw [List.length_take, List.length_drop]; omega
  have HS12 : Hid (Crcm.sum (l.take 12) < 4294967296) := Crcm.sum_lt _ (fun x hx => hb.mem x (List.mem_of_mem_take hx))
  have HC16 : Hid (closedB (l.take 16) = decide ((l.drop 12).take 4 = Crcm.four (Crcm.sum (l.take 12)))) := closed16 l (by omega)
  have h16c : (16 : Int) ≤ (cap : Int) := by omega
  have hq12 : ¬ cap = 12 := by omega
  have h12c : (12 : Int) ≤ (cap : Int) := by omega
  have HCELL : Hid (∀ w', Below w.heap.size w w' → ∀ i, i < 16 → w'.cell? ⟨b, off + i, none⟩ = some (.int .u8 (l.getD i 0 : Nat))) := fun w' hw' i hi => (hw'.cell (p := ⟨b, off + i, none⟩) hlt).trans (hcell i (by omega))
  by_cases hcl : closedB (l.take 16) = false
  · have HP : Hid (PV l = _) := pv_bad l 62 (peekE_62 h16 hm hcl) (by decide)
    have HCV : Hid (decide ((l.drop 12).take 4 = Crcm.four (Crcm.sum (l.take 12))) = false) := by show _ = _; rw [← HC16.out]; exact hcl
    clear hb hcell e0 hne hm hn hl hcap h16 hcl
    go_enter Tryd.func64, Tryd.ntmps64
    go_wp2
    go_region_held3 (fun w' => True) (trivial) (first
      | (go_at_call 56; refine (rsum_any (l.take 12) 12 _ _ _ HL12.out (((HB.out.take 12).drewN 1)) (by rw [HL12.out]; unfold maxLen; omega)).mono ?_; rintro r w1 ⟨rfl, rfl⟩)
      | (go_at_call 55; refine (rfour_any _ _ HS12.out).mono ?_; rintro r w2 ⟨g2, rfl, hy2, hb2⟩; have HB2 : Hid (Below w.heap.size w w2) := (below_drewN (Below.refl _ _) 1).trans hb2; have HY2 : Hid (Bytes w2 (some ⟨g2, 0, none⟩) (Crcm.four (Crcm.sum (l.take 12)))) := hy2; clear hb2 hy2)
      | (go_at_call 12; refine (same_at ((l.drop 12).take 4) (Crcm.four (Crcm.sum (l.take 12))) 4 4 _ _ _ _ _ HL4.out rfl (bytes_sub (HB.out.keep HB2.out) 12 4) HY2.out (by rw [HL4.out]; unfold maxLen; omega) (by show 4 ≤ _; unfold maxLen; omega)).mono ?_; rw [HCV.out]; rintro r w3 ⟨rfl, q3, rfl⟩))
    all_goals go_wp2
    all_goals exact bodyPost_ret (v := .tuple #[.int .i64 0, .int .i64 0, .int .i64 0, .int .i64 62]) (by simp [results, Tryd.results64, go_sem]) rfl ⟨by rw [HP.out]; rfl, below_drewN HB2.out q3⟩
  have HCV : Hid (decide ((l.drop 12).take 4 = Crcm.four (Crcm.sum (l.take 12))) = true) := by show _ = _; rw [← HC16.out]; simpa using hcl
  obtain ⟨x1, e1⟩ : ∃ x, l.getD 1 0 = x := ⟨_, rfl⟩
  obtain ⟨x2, e2⟩ : ∃ x, l.getD 2 0 = x := ⟨_, rfl⟩
  obtain ⟨x3, e3⟩ : ∃ x, l.getD 3 0 = x := ⟨_, rfl⟩
  obtain ⟨x10, e10⟩ : ∃ x, l.getD 10 0 = x := ⟨_, rfl⟩
  obtain ⟨x11, e11⟩ : ∃ x, l.getD 11 0 = x := ⟨_, rfl⟩
  have hx1 : x1 < 256 := by rw [← e1]; exact hb.1 1
  have hx2 : x2 < 256 := by rw [← e2]; exact hb.1 2
  have hx3 : x3 < 256 := by rw [← e3]; exact hb.1 3
  have hx10 : x10 < 256 := by rw [← e10]; exact hb.1 10
  have hx11 : x11 < 256 := by rw [← e11]; exact hb.1 11
  have HD : Hid (∀ w', Below w.heap.size w w' → w'.cell? ⟨b, off + 1, none⟩ = some (.int .u8 (x1 : Int)) ∧ w'.cell? ⟨b, off + 2, none⟩ = some (.int .u8 (x2 : Int)) ∧ w'.cell? ⟨b, off + 3, none⟩ = some (.int .u8 (x3 : Int)) ∧ w'.cell? ⟨b, off + 10, none⟩ = some (.int .u8 (x10 : Int)) ∧ w'.cell? ⟨b, off + 11, none⟩ = some (.int .u8 (x11 : Int))) := fun w' hw' => ⟨by rw [← e1]; exact HCELL.out w' hw' 1 (by omega), by rw [← e2]; exact HCELL.out w' hw' 2 (by omega), by rw [← e3]; exact HCELL.out w' hw' 3 (by omega), by rw [← e10]; exact HCELL.out w' hw' 10 (by omega), by rw [← e11]; exact HCELL.out w' hw' 11 (by omega)⟩
  obtain ⟨s6, hs6⟩ : ∃ s6, Crcm.val ((l.drop 4).take 6) = s6 := ⟨_, rfl⟩
  have HPN : Hid (pn l = x2 + 256 * x3) := by show _ = _; unfold pn; rw [e2, e3]
  have HPK : Hid (pk l = x1) := e1
  have HPB : Hid (ps l ≤ 1099511627776 ↔ x10 = 0 ∧ x11 = 0 ∧ s6 ≤ 1099511627776) := by
    have h := ps_bound l (by omega) hb.1
    rw [e10, e11, hs6] at h
    exact h
  have HPL : Hid (x10 = 0 → x11 = 0 → ps l = s6) := fun h1 h2 => by rw [← hs6]; exact (ps_low l (by omega) (e10.trans h1) (e11.trans h2)).symm
  have hs6l : s6 < 281474976710656 := by rw [← hs6]; exact val6_lt l hb.mem 4 6 (by omega)
  have HS6 : Hid (hi6 l 3 = s6) := hs6
  have HBAD : Hid (¬ (x2 + 256 * x3 ≤ 16384 ∧ 1 ≤ x1 ∧ x1 ≤ 7 ∧ x10 = 0 ∧ x11 = 0 ∧ s6 ≤ 1099511627776) → PV l = .tuple #[.int .i64 0, .int .i64 0, .int .i64 0, .int .i64 63]) := fun hh => pv_bad l 63 (peekE_63 h16 hm hcl (by rw [HPN.out, HPK.out, HPB.out]; exact hh)) (by decide)
  have HGOOD : Hid ((x2 + 256 * x3 ≤ 16384 ∧ 1 ≤ x1 ∧ x1 ≤ 7 ∧ x10 = 0 ∧ x11 = 0 ∧ s6 ≤ 1099511627776) → PV l = .tuple #[.int .i64 (x1 : Int), .int .i64 (s6 : Int), .int .i64 (20 + ((x2 : Int) + 256 * (x3 : Int))), .int .i64 0]) := fun hh => by
    rw [pv_good l (peekE_0 h16 hm hcl (by rw [HPN.out, HPK.out, HPB.out]; exact hh)), HPN.out, HPK.out, HPL.out hh.2.2.2.1 hh.2.2.2.2.1, show ((x2 + 256 * x3 : Nat) : Int) + 20 = 20 + ((x2 : Int) + 256 * (x3 : Int)) from by omega]
  have HMEM : Hid (∀ x ∈ l, x < 256) := hb.mem
  have HLEN : Hid (16 ≤ l.length) := by show _ ≤ _; omega
  clear hb hcell e0 hne hm hn hl hcap h16 hcl e1 e2 e3 e10 e11 hs6
  by_cases z10 : x10 = 0
  · have HZ10 : Hid (x10 = 0) := z10
    have z10I : ((x10 : Int) != 0) = false := by simp; omega
    by_cases z11 : x11 = 0
    · have HZ11 : Hid (x11 = 0) := z11
      have z11I : ((x11 : Int) != 0) = false := by simp; omega
      clear z10 z11
      go_enter Tryd.func64, Tryd.ntmps64
      go_wp2
      go_region_held3 (fun w' => True) (trivial) (first
        | (go_at_call 56; refine (rsum_any (l.take 12) 12 _ _ _ HL12.out (((HB.out.take 12).drewN 1)) (by rw [HL12.out]; unfold maxLen; omega)).mono ?_; rintro r w1 ⟨rfl, rfl⟩)
        | (go_at_call 55; refine (rfour_any _ _ HS12.out).mono ?_; rintro r w2 ⟨g2, rfl, hy2, hb2⟩; have HB2 : Hid (Below w.heap.size w w2) := (below_drewN (Below.refl _ _) 1).trans hb2; have HY2 : Hid (Bytes w2 (some ⟨g2, 0, none⟩) (Crcm.four (Crcm.sum (l.take 12)))) := hy2; clear hb2 hy2)
        | (go_at_call 12; refine (same_at ((l.drop 12).take 4) (Crcm.four (Crcm.sum (l.take 12))) 4 4 _ _ _ _ _ HL4.out rfl (bytes_sub (HB.out.keep HB2.out) 12 4) HY2.out (by rw [HL4.out]; unfold maxLen; omega) (by show 4 ≤ _; unfold maxLen; omega)).mono ?_; rw [HCV.out]; rintro r w3 ⟨rfl, q3, rfl⟩))
      obtain ⟨d1, d2, d3, d10, d11⟩ := HD.out w2 HB2.out
      have h2n : (2 : Int) < (n : Int) := by omega
      have h3n : (3 : Int) < (n : Int) := by omega
      have h1n : (1 : Int) < (n : Int) := by omega
      have h10n : (10 : Int) < (n : Int) := by omega
      have h11n : (11 : Int) < (n : Int) := by omega
      go_wp2
      go_quiet (fail)
      go_wp2
      obtain ⟨WX, hWX⟩ : ∃ WX, w2.drewN (q3 + nq) = WX := ⟨_, rfl⟩
      try rw [hWX]
      have HBE : Hid (Below w.heap.size w WX) := by rw [← hWX]; exact below_drewN HB2.out _
      have HCX : Hid (∀ i, i < 16 → WX.cell? ⟨b, off + i, none⟩ = some (.int .u8 (l.getD i 0 : Nat))) := fun i hi => HCELL.out WX HBE.out i hi
      obtain ⟨f1, f2, f3, f10, f11⟩ := HD.out WX HBE.out
      clear hWX d1 d2 d3 d10 d11 HD HCELL HY2 HB2 HL12 HL4 HS12 HC16 HCV
      go_loop [8, 9] (fun vs vi => ∃ i : Nat, 3 ≤ i ∧ i ≤ 9 ∧ vi = .int .i64 i ∧ vs = .int .i64 (hi6 l i : Nat)) (fun _ vi => (intOf vi).toNat)
      case atStart => exact ⟨9, by omega, by omega, rfl, by simp [hi6, Crcm.val]⟩
      case round =>
        obtain ⟨i, hi3, hi9, rfl, rfl⟩ := hrel
        by_cases h4 : 4 ≤ i
        · have hc := HCX.out i (by omega)
          have hst := hi6_step l i HLEN.out h4 hi9
          have hlt6 : Crcm.val ((l.drop i).take (10 - i)) < 281474976710656 := val6_lt l HMEM.out i (10 - i) (by omega)
          have HN : Hid (256 * hi6 l i + l.getD i 0 = hi6 l (i - 1)) := by show _ = _; rw [hst]; unfold hi6; rw [show i - 1 + 1 = i from by omega, show 9 - (i - 1) = 10 - i from by omega]
          have hs9 : 256 * hi6 l i + l.getD i 0 < 281474976710656 := by omega
          obtain ⟨c, hcE⟩ : ∃ c, l.getD i 0 = c := ⟨_, rfl⟩
          obtain ⟨S, hS⟩ : ∃ S, hi6 l i = S := ⟨_, rfl⟩
          rw [hcE] at hc hs9 HN
          rw [hS] at hs9 HN ⊢
          have hsI : 256 * (S : Int) + (c : Int) < 281474976710656 := by omega
          have hsJ : 256 * (S : Int) < 281474976710656 := by omega
          have hiN : (i : Int) < (n : Int) := by omega
          have h4I : (4 : Int) ≤ (i : Int) := by omega
          have hi9I : (i : Int) ≤ 9 := by omega
          clear hst hlt6 hcE hS hs9
          go_wp2
          go_round
          case rel => exact ⟨i - 1, by omega, by omega, by go_num, by rw [← HN.out]; go_num⟩
          case measure => simp [intOf]; omega
        · obtain rfl : i = 3 := by omega
          rw [HS6.out]
          have hs6I : (s6 : Int) < 281474976710656 := by omega
          by_cases q1 : x1 < 1
          · have q1I : (x1 : Int) < 1 := by omega
            have HP : Hid (PV l = _) := HBAD.out (by first | omega | (have h1 := HZ10.out; omega) | (have h1 := HZ10.out; have h2 := HZ11.out; omega))
            go_wp2
            exact bodyPost_ret (v := .tuple #[.int .i64 0, .int .i64 0, .int .i64 0, .int .i64 63]) (by simp [results, Tryd.results64, go_sem]) rfl ⟨by rw [HP.out], HBE.out⟩
          have q1I : (1 : Int) ≤ (x1 : Int) := by omega
          by_cases q2 : 7 < x1
          · have q2I : (7 : Int) < (x1 : Int) := by omega
            have HP : Hid (PV l = _) := HBAD.out (by first | omega | (have h1 := HZ10.out; omega) | (have h1 := HZ10.out; have h2 := HZ11.out; omega))
            go_wp2
            exact bodyPost_ret (v := .tuple #[.int .i64 0, .int .i64 0, .int .i64 0, .int .i64 63]) (by simp [results, Tryd.results64, go_sem]) rfl ⟨by rw [HP.out], HBE.out⟩
          have q2I : (x1 : Int) ≤ 7 := by omega
          by_cases q3 : 16384 < x2 + 256 * x3
          · have q3I : (16384 : Int) < (x2 : Int) + 256 * (x3 : Int) := by omega
            have HP : Hid (PV l = _) := HBAD.out (by first | omega | (have h1 := HZ10.out; omega) | (have h1 := HZ10.out; have h2 := HZ11.out; omega))
            go_wp2
            exact bodyPost_ret (v := .tuple #[.int .i64 0, .int .i64 0, .int .i64 0, .int .i64 63]) (by simp [results, Tryd.results64, go_sem]) rfl ⟨by rw [HP.out], HBE.out⟩
          have q3I : (x2 : Int) + 256 * (x3 : Int) ≤ 16384 := by omega
          by_cases q4 : 1099511627776 < s6
          · have q4I : (1099511627776 : Int) < (s6 : Int) := by omega
            have HP : Hid (PV l = _) := HBAD.out (by first | omega | (have h1 := HZ10.out; omega) | (have h1 := HZ10.out; have h2 := HZ11.out; omega))
            go_wp2
            exact bodyPost_ret (v := .tuple #[.int .i64 0, .int .i64 0, .int .i64 0, .int .i64 63]) (by simp [results, Tryd.results64, go_sem]) rfl ⟨by rw [HP.out], HBE.out⟩
          have q4I : (s6 : Int) ≤ 1099511627776 := by omega
          have HP : Hid (PV l = _) := HGOOD.out (by have h1 := HZ10.out; have h2 := HZ11.out; omega)
          clear q4 q1 q2 q3 hs6l hs6I hlI
          go_wp2
          exact bodyPost_ret (v := .tuple #[.int .i64 (x1 : Int), .int .i64 (s6 : Int), .int .i64 (20 + ((x2 : Int) + 256 * (x3 : Int))), .int .i64 0]) (by simp [results, Tryd.results64, go_sem]) rfl ⟨by rw [HP.out], HBE.out⟩
    · have z11I : ((x11 : Int) != 0) = true := by simp; omega
      clear z10
      go_enter Tryd.func64, Tryd.ntmps64
      go_wp2
      go_region_held3 (fun w' => True) (trivial) (first
        | (go_at_call 56; refine (rsum_any (l.take 12) 12 _ _ _ HL12.out (((HB.out.take 12).drewN 1)) (by rw [HL12.out]; unfold maxLen; omega)).mono ?_; rintro r w1 ⟨rfl, rfl⟩)
        | (go_at_call 55; refine (rfour_any _ _ HS12.out).mono ?_; rintro r w2 ⟨g2, rfl, hy2, hb2⟩; have HB2 : Hid (Below w.heap.size w w2) := (below_drewN (Below.refl _ _) 1).trans hb2; have HY2 : Hid (Bytes w2 (some ⟨g2, 0, none⟩) (Crcm.four (Crcm.sum (l.take 12)))) := hy2; clear hb2 hy2)
        | (go_at_call 12; refine (same_at ((l.drop 12).take 4) (Crcm.four (Crcm.sum (l.take 12))) 4 4 _ _ _ _ _ HL4.out rfl (bytes_sub (HB.out.keep HB2.out) 12 4) HY2.out (by rw [HL4.out]; unfold maxLen; omega) (by show 4 ≤ _; unfold maxLen; omega)).mono ?_; rw [HCV.out]; rintro r w3 ⟨rfl, q3, rfl⟩))
      obtain ⟨d1, d2, d3, d10, d11⟩ := HD.out w2 HB2.out
      have h2n : (2 : Int) < (n : Int) := by omega
      have h3n : (3 : Int) < (n : Int) := by omega
      have h1n : (1 : Int) < (n : Int) := by omega
      have h10n : (10 : Int) < (n : Int) := by omega
      have h11n : (11 : Int) < (n : Int) := by omega
      go_wp2
      go_quiet (fail)
      go_wp2
      obtain ⟨WX, hWX⟩ : ∃ WX, w2.drewN (q3 + nq) = WX := ⟨_, rfl⟩
      try rw [hWX]
      have HBE : Hid (Below w.heap.size w WX) := by rw [← hWX]; exact below_drewN HB2.out _
      have HCX : Hid (∀ i, i < 16 → WX.cell? ⟨b, off + i, none⟩ = some (.int .u8 (l.getD i 0 : Nat))) := fun i hi => HCELL.out WX HBE.out i hi
      obtain ⟨f1, f2, f3, f10, f11⟩ := HD.out WX HBE.out
      clear hWX d1 d2 d3 d10 d11 HD HCELL HY2 HB2 HL12 HL4 HS12 HC16 HCV
      go_loop [8, 9] (fun vs vi => ∃ i : Nat, 3 ≤ i ∧ i ≤ 9 ∧ vi = .int .i64 i ∧ vs = .int .i64 (hi6 l i : Nat)) (fun _ vi => (intOf vi).toNat)
      case atStart => exact ⟨9, by omega, by omega, rfl, by simp [hi6, Crcm.val]⟩
      case round =>
        obtain ⟨i, hi3, hi9, rfl, rfl⟩ := hrel
        by_cases h4 : 4 ≤ i
        · have hc := HCX.out i (by omega)
          have hst := hi6_step l i HLEN.out h4 hi9
          have hlt6 : Crcm.val ((l.drop i).take (10 - i)) < 281474976710656 := val6_lt l HMEM.out i (10 - i) (by omega)
          have HN : Hid (256 * hi6 l i + l.getD i 0 = hi6 l (i - 1)) := by show _ = _; rw [hst]; unfold hi6; rw [show i - 1 + 1 = i from by omega, show 9 - (i - 1) = 10 - i from by omega]
          have hs9 : 256 * hi6 l i + l.getD i 0 < 281474976710656 := by omega
          obtain ⟨c, hcE⟩ : ∃ c, l.getD i 0 = c := ⟨_, rfl⟩
          obtain ⟨S, hS⟩ : ∃ S, hi6 l i = S := ⟨_, rfl⟩
          rw [hcE] at hc hs9 HN
          rw [hS] at hs9 HN ⊢
          have hsI : 256 * (S : Int) + (c : Int) < 281474976710656 := by omega
          have hsJ : 256 * (S : Int) < 281474976710656 := by omega
          have hiN : (i : Int) < (n : Int) := by omega
          have h4I : (4 : Int) ≤ (i : Int) := by omega
          have hi9I : (i : Int) ≤ 9 := by omega
          clear hst hlt6 hcE hS hs9
          go_wp2
          go_round
          case rel => exact ⟨i - 1, by omega, by omega, by go_num, by rw [← HN.out]; go_num⟩
          case measure => simp [intOf]; omega
        · obtain rfl : i = 3 := by omega
          rw [HS6.out]
          have hs6I : (s6 : Int) < 281474976710656 := by omega
          by_cases q1 : x1 < 1
          · have q1I : (x1 : Int) < 1 := by omega
            have HP : Hid (PV l = _) := HBAD.out (by first | omega | (have h1 := HZ10.out; omega) | (have h1 := HZ10.out; have h2 := HZ11.out; omega))
            go_wp2
            exact bodyPost_ret (v := .tuple #[.int .i64 0, .int .i64 0, .int .i64 0, .int .i64 63]) (by simp [results, Tryd.results64, go_sem]) rfl ⟨by rw [HP.out], HBE.out⟩
          have q1I : (1 : Int) ≤ (x1 : Int) := by omega
          by_cases q2 : 7 < x1
          · have q2I : (7 : Int) < (x1 : Int) := by omega
            have HP : Hid (PV l = _) := HBAD.out (by first | omega | (have h1 := HZ10.out; omega) | (have h1 := HZ10.out; have h2 := HZ11.out; omega))
            go_wp2
            exact bodyPost_ret (v := .tuple #[.int .i64 0, .int .i64 0, .int .i64 0, .int .i64 63]) (by simp [results, Tryd.results64, go_sem]) rfl ⟨by rw [HP.out], HBE.out⟩
          have q2I : (x1 : Int) ≤ 7 := by omega
          by_cases q3 : 16384 < x2 + 256 * x3
          · have q3I : (16384 : Int) < (x2 : Int) + 256 * (x3 : Int) := by omega
            have HP : Hid (PV l = _) := HBAD.out (by first | omega | (have h1 := HZ10.out; omega) | (have h1 := HZ10.out; have h2 := HZ11.out; omega))
            go_wp2
            exact bodyPost_ret (v := .tuple #[.int .i64 0, .int .i64 0, .int .i64 0, .int .i64 63]) (by simp [results, Tryd.results64, go_sem]) rfl ⟨by rw [HP.out], HBE.out⟩
          have q3I : (x2 : Int) + 256 * (x3 : Int) ≤ 16384 := by omega
          have HP : Hid (PV l = _) := HBAD.out (by first | omega | (have h1 := HZ10.out; omega) | (have h1 := HZ10.out; have h2 := HZ11.out; omega))
          go_wp2
          exact bodyPost_ret (v := .tuple #[.int .i64 0, .int .i64 0, .int .i64 0, .int .i64 63]) (by simp [results, Tryd.results64, go_sem]) rfl ⟨by rw [HP.out], HBE.out⟩
  · have z10I : ((x10 : Int) != 0) = true := by simp; omega
    go_enter Tryd.func64, Tryd.ntmps64
    go_wp2
    go_region_held3 (fun w' => True) (trivial) (first
      | (go_at_call 56; refine (rsum_any (l.take 12) 12 _ _ _ HL12.out (((HB.out.take 12).drewN 1)) (by rw [HL12.out]; unfold maxLen; omega)).mono ?_; rintro r w1 ⟨rfl, rfl⟩)
      | (go_at_call 55; refine (rfour_any _ _ HS12.out).mono ?_; rintro r w2 ⟨g2, rfl, hy2, hb2⟩; have HB2 : Hid (Below w.heap.size w w2) := (below_drewN (Below.refl _ _) 1).trans hb2; have HY2 : Hid (Bytes w2 (some ⟨g2, 0, none⟩) (Crcm.four (Crcm.sum (l.take 12)))) := hy2; clear hb2 hy2)
      | (go_at_call 12; refine (same_at ((l.drop 12).take 4) (Crcm.four (Crcm.sum (l.take 12))) 4 4 _ _ _ _ _ HL4.out rfl (bytes_sub (HB.out.keep HB2.out) 12 4) HY2.out (by rw [HL4.out]; unfold maxLen; omega) (by show 4 ≤ _; unfold maxLen; omega)).mono ?_; rw [HCV.out]; rintro r w3 ⟨rfl, q3, rfl⟩))
    obtain ⟨d1, d2, d3, d10, d11⟩ := HD.out w2 HB2.out
    have h2n : (2 : Int) < (n : Int) := by omega
    have h3n : (3 : Int) < (n : Int) := by omega
    have h1n : (1 : Int) < (n : Int) := by omega
    have h10n : (10 : Int) < (n : Int) := by omega
    have h11n : (11 : Int) < (n : Int) := by omega
    go_wp2
    go_quiet (fail)
    go_wp2
    obtain ⟨WX, hWX⟩ : ∃ WX, w2.drewN (q3 + nq) = WX := ⟨_, rfl⟩
    try rw [hWX]
    have HBE : Hid (Below w.heap.size w WX) := by rw [← hWX]; exact below_drewN HB2.out _
    have HCX : Hid (∀ i, i < 16 → WX.cell? ⟨b, off + i, none⟩ = some (.int .u8 (l.getD i 0 : Nat))) := fun i hi => HCELL.out WX HBE.out i hi
    obtain ⟨f1, f2, f3, f10, f11⟩ := HD.out WX HBE.out
    clear hWX d1 d2 d3 d10 d11 HD HCELL HY2 HB2 HL12 HL4 HS12 HC16 HCV
    go_loop [8, 9] (fun vs vi => ∃ i : Nat, 3 ≤ i ∧ i ≤ 9 ∧ vi = .int .i64 i ∧ vs = .int .i64 (hi6 l i : Nat)) (fun _ vi => (intOf vi).toNat)
    case atStart => exact ⟨9, by omega, by omega, rfl, by simp [hi6, Crcm.val]⟩
    case round =>
      obtain ⟨i, hi3, hi9, rfl, rfl⟩ := hrel
      by_cases h4 : 4 ≤ i
      · have hc := HCX.out i (by omega)
        have hst := hi6_step l i HLEN.out h4 hi9
        have hlt6 : Crcm.val ((l.drop i).take (10 - i)) < 281474976710656 := val6_lt l HMEM.out i (10 - i) (by omega)
        have HN : Hid (256 * hi6 l i + l.getD i 0 = hi6 l (i - 1)) := by show _ = _; rw [hst]; unfold hi6; rw [show i - 1 + 1 = i from by omega, show 9 - (i - 1) = 10 - i from by omega]
        have hs9 : 256 * hi6 l i + l.getD i 0 < 281474976710656 := by omega
        obtain ⟨c, hcE⟩ : ∃ c, l.getD i 0 = c := ⟨_, rfl⟩
        obtain ⟨S, hS⟩ : ∃ S, hi6 l i = S := ⟨_, rfl⟩
        rw [hcE] at hc hs9 HN
        rw [hS] at hs9 HN ⊢
        have hsI : 256 * (S : Int) + (c : Int) < 281474976710656 := by omega
        have hsJ : 256 * (S : Int) < 281474976710656 := by omega
        have hiN : (i : Int) < (n : Int) := by omega
        have h4I : (4 : Int) ≤ (i : Int) := by omega
        have hi9I : (i : Int) ≤ 9 := by omega
        clear hst hlt6 hcE hS hs9
        go_wp2
        go_round
        case rel => exact ⟨i - 1, by omega, by omega, by go_num, by rw [← HN.out]; go_num⟩
        case measure => simp [intOf]; omega
      · obtain rfl : i = 3 := by omega
        rw [HS6.out]
        have hs6I : (s6 : Int) < 281474976710656 := by omega
        by_cases q1 : x1 < 1
        · have q1I : (x1 : Int) < 1 := by omega
          have HP : Hid (PV l = _) := HBAD.out (by first | omega | (have h1 := HZ10.out; omega) | (have h1 := HZ10.out; have h2 := HZ11.out; omega))
          go_wp2
          exact bodyPost_ret (v := .tuple #[.int .i64 0, .int .i64 0, .int .i64 0, .int .i64 63]) (by simp [results, Tryd.results64, go_sem]) rfl ⟨by rw [HP.out], HBE.out⟩
        have q1I : (1 : Int) ≤ (x1 : Int) := by omega
        by_cases q2 : 7 < x1
        · have q2I : (7 : Int) < (x1 : Int) := by omega
          have HP : Hid (PV l = _) := HBAD.out (by first | omega | (have h1 := HZ10.out; omega) | (have h1 := HZ10.out; have h2 := HZ11.out; omega))
          go_wp2
          exact bodyPost_ret (v := .tuple #[.int .i64 0, .int .i64 0, .int .i64 0, .int .i64 63]) (by simp [results, Tryd.results64, go_sem]) rfl ⟨by rw [HP.out], HBE.out⟩
        have q2I : (x1 : Int) ≤ 7 := by omega
        by_cases q3 : 16384 < x2 + 256 * x3
        · have q3I : (16384 : Int) < (x2 : Int) + 256 * (x3 : Int) := by omega
          have HP : Hid (PV l = _) := HBAD.out (by first | omega | (have h1 := HZ10.out; omega) | (have h1 := HZ10.out; have h2 := HZ11.out; omega))
          go_wp2
          exact bodyPost_ret (v := .tuple #[.int .i64 0, .int .i64 0, .int .i64 0, .int .i64 63]) (by simp [results, Tryd.results64, go_sem]) rfl ⟨by rw [HP.out], HBE.out⟩
        have q3I : (x2 : Int) + 256 * (x3 : Int) ≤ 16384 := by omega
        have HP : Hid (PV l = _) := HBAD.out (by first | omega | (have h1 := HZ10.out; omega) | (have h1 := HZ10.out; have h2 := HZ11.out; omega))
        go_wp2
        exact bodyPost_ret (v := .tuple #[.int .i64 0, .int .i64 0, .int .i64 0, .int .i64 63]) (by simp [results, Tryd.results64, go_sem]) rfl ⟨by rw [HP.out], HBE.out⟩
end Go.Proofs.YtaegmeilhdbnnaaDoor
namespace Go.Proofs.YtaegmeilhdbnnaaDoor
open Go.ChangeShapes Go.WideShapes Go.ChangeAt Go.RowKit
theorem copy_step (l : List Nat) (k n : Nat) (hn : n = l.length) (h : k < l.length) :
    (B8 (l.take k) ++ List.replicate (n - k) (Value.int .u8 0)).set k (.int .u8 (l.getD k 0 : Nat)) = B8 (l.take (k + 1)) ++ List.replicate (n - (k + 1)) (Value.int .u8 0) := by
  subst hn
  have h1 : (B8 (l.take k)).length = k := by simp [B8]; omega
  rw [show l.length - k = (l.length - (k + 1)) + 1 from by omega, List.replicate_succ]
  rw [List.set_append, if_neg (by omega), h1, Nat.sub_self, List.set_cons_zero]
  rw [List.take_succ_eq_append_getElem h, B8_append, List.append_assoc]
  simp [B8, List.getD_eq_getElem?_getD, h]
theorem Tryd.info5c : (Tryd.prog.info? 5).map (fun i => (i.zero, i.size, i.bytes)) = some (some (.int .u8 0), 1, 1) := by kernel_rfl
set_option maxRecDepth 20000 in
set_option maxHeartbeats 1000000 in
theorem copy_any (l : List Nat) (a : Option Addr) (cap : Nat) (w : World) (hb : Bytes w a l) (hl : l.length ≤ 281474976710656) :
    Calls Tryd.prog 15 #[.slice a l.length cap] w fun e w' => ∃ v, e = .returned v ∧ Own w' w.heap.size v l ∧ Below w.heap.size w w' := by
  obtain ⟨i0, hi, hz0, hz1, hz2⟩ := info_parts Tryd.info5c
  have hl3 : l.length ≤ maxLen := by unfold maxLen; omega
  obtain ⟨hy, hb⟩ := hb
  have HY : Hid (∀ i, l.getD i 0 < 256) := hy
  go_enter Tryd.func15, Tryd.ntmps15
  go_wp2_with (at_make; refine wpList_make_full _ rfl _ _ 22 rfl w.heap.size 5 i0 (.int .u8 0) 1 Tryd.underlying22 hi hz0 hz1 _ _ _ _ l.length rfl rfl rfl rfl (by rw [hz2]; omega) hl3 (Nat.le_refl _) ?_)
  intro w1 ho hg
  have hb1 : Below w.heap.size w w1 := (Below.refl _ _).grown hg (Nat.le_refl _) (fun k hk => by cases hk)
  clear hg
  have ho1 : w1.ownsRow w.heap.size 5 1 (.slice (some ⟨w.heap.size, 0, none⟩) l.length l.length) l.length (B8 (l.take 0) ++ List.replicate (l.length - 0) (Value.int .u8 0)) := by
    have h := ho
    rw [toList_madeCells_one] at h
    simpa [B8] using h
  clear ho
  rcases hb with rfl | ⟨b, off, rfl, hlt, hc⟩
  · go_wp2
    refine wp_loop_rounds 1 ?_
    rw [rounds_succ]
    go_wp2
    go_ret
    exact ⟨_, rfl, ⟨HY.out, ho1⟩, hb1⟩
  · go_wp2
    go_loopw [10] (fun i wr => ∃ k : Nat, k ≤ l.length ∧ i = .int .i64 k ∧ wr.ownsRow w.heap.size 5 1 (.slice (some ⟨w.heap.size, 0, none⟩) l.length l.length) l.length (B8 (l.take k) ++ List.replicate (l.length - k) (Value.int .u8 0)) ∧ Below w.heap.size w wr) (fun i _ => l.length - (intOf i).toNat)
    case atStart => exact ⟨0, Nat.zero_le _, rfl, ho1, hb1⟩
    case round =>
      obtain ⟨k, hk, rfl, ho, hbe⟩ := hrel
      by_cases hkl : k < l.length
      · have e1 := hc k hkl
        rw [← hbe.cell (p := ⟨b, off + k, none⟩) hlt] at e1
        have hst := ho.stored k (.int .u8 (l.getD k 0 : Nat))
        rw [copy_step l k _ rfl hkl] at hst
        have e2 := ho.cellAt k (by omega)
        have e3 := ho.frozenAt k
        obtain ⟨z, hz⟩ : ∃ z, wr.cell? ⟨w.heap.size, k, none⟩ = some z := by
          rw [e2]
          exact ⟨_, List.getElem?_eq_getElem (by rw [List.length_append, List.length_replicate]; simp [B8]; omega)⟩
        have hb2 := hbe.grown hst.2 (by have := hbe.size; omega) (fun j hj => by cases hj; exact Nat.le_refl _)
        have HS : Hid (_ ∧ _) := ⟨hst.1, hb2⟩
        clear e2 hst hb2 ho hbe hc hy ho1 hb1
        obtain ⟨x, hx⟩ : ∃ x, x = l.getD k 0 := ⟨_, rfl⟩
        rw [← hx] at e1 HS
        clear hx
        go_wp2
        go_roundw
        case rel => exact ⟨k + 1, by omega, by go_num, HS.out.1, HS.out.2⟩
        case measure => simp [intOf]; omega
      · have hkl2 : k = l.length := by omega
        have HO : Hid (wr.ownsRow w.heap.size 5 1 (.slice (some ⟨w.heap.size, 0, none⟩) l.length l.length) l.length (B8 l)) := by
          have h := ho
          rw [hkl2, List.take_of_length_le (Nat.le_refl _), Nat.sub_self, List.replicate_zero, List.append_nil] at h
          exact h
        clear ho hc hy ho1 hb1 hkl2
        go_wp2
        go_ret
        exact ⟨_, rfl, ⟨HY.out, HO.out⟩, hbe⟩
end Go.Proofs.YtaegmeilhdbnnaaDoor
namespace Go.Proofs.YtaegmeilhdbnnaaDoor
open Go.ChangeShapes Go.WideShapes Go.ChangeAt Go.RowKit
set_option linter.unusedVariables false
theorem FrmAt.drewN {w : World} {k : Nat} {kind seq : Int} {bv : Value} (h : FrmAt w k kind seq bv) (m : Nat) : FrmAt (w.drewN m) k kind seq bv := by
  induction m with
  | zero => exact h
  | succ m ih => exact ih
theorem own_drewN {w : World} {base : Nat} {v : Value} {l : List Nat} (h : Own w base v l) (m : Nat) : Own (w.drewN m) base v l := by
  induction m with
  | zero => exact h
  | succ m ih => exact ih
theorem own_apart {w w' : World} {base j : Nat} {v : Value} {l : List Nat} (h : Own w base v l) (hh : ∀ k, k ≠ j → w'.heap[k]? = w.heap[k]?) (hj : j < base) : Own w' j v l := by
  refine ⟨h.1, h.2.1, ?_⟩
  rcases h.2.2 with h2 | ⟨g, cap, cur, h3, h4, h5, h6⟩
  · exact .inl h2
  · exact .inr ⟨g, cap, cur, h3, by omega, (hh g (by omega)).trans h5, h6⟩
theorem closedBody (l : List Nat) (p : Nat) (h : p + 20 ≤ l.length) : closedB ((l.take (p + 20)).drop 16) = decide ((l.drop (p + 16)).take 4 = Crcm.four (Crcm.sum ((l.drop 16).take p))) := by
  have h1 : ((l.take (p + 20)).drop 16).length = p + 4 := by rw [List.length_drop, List.length_take]; omega
  unfold closedB
  rw [h1, show p + 4 - 4 = p from by omega, List.drop_drop, List.drop_take, List.drop_take, List.take_take, show min p (p + 20 - 16) = p from by omega, show p + 20 - (16 + p) = 4 from by omega, show 16 + p = p + 16 from by omega, decide_eq_decide]
  exact ⟨fun x => x.2, fun x => ⟨by omega, x⟩⟩
set_option maxRecDepth 20000 in
set_option maxHeartbeats 1000000 in
theorem rfdec_any (l : List Nat) (n : Nat) (a : Option Addr) (cap : Nat) (w : World) (hn : l.length = n) (hb : Bytes w a l) (hl : l.length ≤ 281474976710656) (hcap : l.length ≤ cap) :
    Calls Tryd.prog 34 #[.slice a n cap] w fun r w' => ∃ v, r = .returned (DV l v) ∧ Own w' w.heap.size v (decB l) ∧ Below w.heap.size w w' := by
  have HF0 : Hid (FrmAt (w.alloc (.cells #[.int .i64 0, .int .i64 0, .slice none 0 0] 65)) w.heap.size 0 0 (.slice none 0 0)) := FrmAt.new w 0 0 (.slice none 0 0)
  have HB0 : Hid (Below w.heap.size w (w.alloc (.cells #[.int .i64 0, .int .i64 0, .slice none 0 0] 65))) := (Below.refl _ _).alloc (Nat.le_refl _) _
  have HPK : Hid (∀ w1, Below w.heap.size w w1 → Calls Tryd.prog 64 #[.slice a n cap] w1 fun e w' => e = .returned (PV l) ∧ Below w1.heap.size w1 w') := fun w1 hb1 => rpeek_any l n a cap w1 hn (hb.keep hb1) hl hcap
  by_cases hp : peekE l = 0
  · obtain ⟨h16, h1, h2, h3, h4, h5, h6⟩ := peekE_zero hp
    have hne : l ≠ [] := by intro h; subst h; simp at h16
    obtain ⟨b, off, rfl, hlt, _⟩ := hb.nonempty hne
    have HPV : Hid (PV l = _) := pv_good l hp
    have HB : Hid (Bytes w (some ⟨b, off, none⟩) l) := hb
    obtain ⟨p, hpp⟩ : ∃ p, pn l = p := ⟨_, rfl⟩
    obtain ⟨s, hss⟩ : ∃ s, ps l = s := ⟨_, rfl⟩
    obtain ⟨k, hkk⟩ : ∃ k, pk l = k := ⟨_, rfl⟩
    rw [hpp, hss, hkk] at HPV
    rw [hpp] at h3
    by_cases hsz : l.length < pn l + 20
    · have HD : Hid (_ ∧ _) := dv_bad l 60 (by unfold decE; rw [if_neg (by omega), if_pos hsz]) (by decide)
      rw [hpp] at hsz
      rw [hn] at hsz
      have hszI : (n : Int) < (p : Int) + 20 := by omega
      clear hb hcap hl hn h1 h2 h4 h5 h6 hne hp hsz hpp hss hkk h16
      go_enter Tryd.func34, Tryd.ntmps34
      go_wp2_with (first
        | (go_at_call 64; refine (HPK.out _ HB0.out).mono ?_; rw [HPV.out]; rintro r w1 ⟨rfl, hb1⟩; have HF1 : Hid (FrmAt w1 w.heap.size 0 0 (.slice none 0 0)) := HF0.out.keep hb1; have HB1 : Hid (Below w.heap.size w w1) := HB0.out.trans (hb1.mono (by simp)); clear hb1)
        | ((with_reducible refine frm_store 65 ?_); refine wpList_store_frm rfl _ _ rfl rfl HF1.out rfl rfl rfl ?_; intro w9 hf9 ho9 hh9 hs9; have HF9 : Hid (FrmAt w9 w.heap.size _ _ _) := hf9; have HB9 : Hid (Below w.heap.size w w9) := below_one HB1.out ho9 hh9 hs9 (Nat.le_refl _); clear hf9 ho9 hh9 hs9))
      refine bodyPost_ret (results_frm3 rfl _ _ w.heap.size rfl HF9.out) rfl ⟨.slice none 0 0, by rw [HD.out.1]; rfl, by rw [HD.out.2]; exact own_none _ _, HB9.out⟩
    · obtain ⟨q, hq⟩ : ∃ q, p + 20 = q := ⟨_, rfl⟩
      have hlq : q ≤ n := by rw [← hn]; omega
      have HL4 : Hid (((l.drop (p + 16)).take 4).length = 4) := by show _ = _; rw [List.length_take, List.length_drop]; omega
      have HBD : Hid (((l.drop 16).take p).length = p) := by show _ = _; rw [List.length_take, List.length_drop]; omega
      have HBB : Hid (∀ w1, Below w.heap.size w w1 → Bytes w1 (some ⟨b, off + 16, none⟩) ((l.drop 16).take p)) := fun w1 hb1 => ((hb.keep hb1).drop 16).take p
      have HSB : Hid (Crcm.sum ((l.drop 16).take p) < 4294967296) := Crcm.sum_lt _ (HBB.out w (Below.refl _ _)).mem
      have hpm : p ≤ maxLen := by unfold maxLen; omega
      have HCP : Hid (∀ w1, Below w.heap.size w w1 → Calls Tryd.prog 15 #[.slice (some ⟨b, off + 16, none⟩) p (cap - 16)] w1 fun e w' => ∃ v, e = .returned v ∧ Own w' w1.heap.size v ((l.drop 16).take p) ∧ Below w1.heap.size w1 w') := fun w1 hb1 => by
        have := copy_any ((l.drop 16).take p) (some ⟨b, off + 16, none⟩) (cap - 16) w1 (HBB.out w1 hb1) (by rw [HBD.out]; omega)
        rw [HBD.out] at this
        exact this
      have HCB : Hid (closedB ((l.take (p + 20)).drop 16) = decide ((l.drop (p + 16)).take 4 = Crcm.four (Crcm.sum ((l.drop 16).take p)))) := closedBody l p (by omega)
      rw [show (p : Int) + 20 = (q : Int) from by omega] at HPV
      have hqI : ¬ (n : Int) < (q : Int) := by omega
      have hqc : (q : Int) ≤ (cap : Int) := by omega
      have hq1 : (20 : Int) ≤ (q : Int) := by omega
      obtain ⟨t, htE⟩ : ∃ t, p + 16 = t := ⟨_, rfl⟩
      have hqt : (q : Int) - 4 = (t : Int) := by omega
      have ht16 : (16 : Int) ≤ (t : Int) := by omega
      have hwt : IntKind.i64.wrap (t : Int) = (t : Int) := by rw [wrap_i64]; omega
      have hwq : IntKind.i64.wrap ((q : Int) - 4) = (t : Int) := by rw [wrap_i64]; omega
      have ht0 : (0 : Int) ≤ (t : Int) := by omega
      have htq2 : t ≤ q := by omega
      have htq : (t : Int) ≤ (q : Int) := by omega
      have htc : (t : Int) ≤ (cap : Int) := by omega
      have htp : t - 16 = p := by omega
      have hqt4 : q - t = 4 := by omega
      have hqn : ¬ cap = 16 := by omega
      have htn : ¬ cap = t := by omega
      have hnI : (n : Int) ≤ 281474976710656 := by omega
      have hnc : n ≤ cap := by omega
      have hqle : (q : Int) ≤ 16404 := by omega
      rw [htE] at HL4 HCB
      by_cases hcl : closedB ((l.take (pn l + 20)).drop 16) = false
      · have HD : Hid (_ ∧ _) := dv_bad l 62 (by unfold decE; rw [if_neg (by omega), if_neg hsz, if_pos hcl]) (by decide)
        have HCV : Hid (decide ((l.drop t).take 4 = Crcm.four (Crcm.sum ((l.drop 16).take p))) = false) := by show _ = _; rw [← HCB.out, ← hpp]; exact hcl
        clear hb hcap hl hn h1 h2 h4 h5 h6 hne hp hsz hpp hss hkk h16 hcl htE hq HCB
        go_enter Tryd.func34, Tryd.ntmps34
        go_wp2_with (first
          | (go_at_call 64; refine (HPK.out _ HB0.out).mono ?_; rw [HPV.out]; rintro r w1 ⟨rfl, hb1⟩; have HF1 : Hid (FrmAt w1 w.heap.size 0 0 (.slice none 0 0)) := HF0.out.keep hb1; have HB1 : Hid (Below w.heap.size w w1) := HB0.out.trans (hb1.mono (by simp)); clear hb1)
          | (go_at_call 15; refine (HCP.out _ HB1.out).mono ?_; rintro r w2 ⟨v2, rfl, ho2, hb2⟩; obtain ⟨a2, c2, hv2, hc2, _, hy2, hs2⟩ := ho2.shape; rw [HBD.out] at hv2 hc2; subst hv2; have HF2 : Hid (FrmAt w2 w.heap.size 0 0 (.slice none 0 0)) := HF1.out.keep hb2; have HB2 : Hid (Below w.heap.size w w2) := below_next HB1.out hb2; have HY2 : Hid (Bytes w2 a2 ((l.drop 16).take p)) := hy2; have HO2 : Hid (Own w2 w1.heap.size (.slice a2 p c2) ((l.drop 16).take p)) := ho2; have HS1 : Hid (w.heap.size < w1.heap.size) := lt_of_heap HF1.out; clear ho2 hb2 hy2 hs2))
        go_region_held3 (fun w' => True) (trivial) (first
          | (go_at_call 56; refine (rsum_any ((l.drop 16).take p) p _ _ _ HBD.out (HY2.out.drewN 1) (by rw [HBD.out]; exact hpm)).mono ?_; rintro r w3 ⟨rfl, rfl⟩)
          | (go_at_call 55; refine (rfour_any _ _ HSB.out).mono ?_; rintro r w4 ⟨g4, rfl, hy4, hb4⟩; have HB4 : Hid (Below w.heap.size w w4) := HB2.out.trans (((below_drewN (Below.refl w2.heap.size w2) 1).trans hb4).mono HB2.out.size); have HF4 : Hid (FrmAt w4 w.heap.size 0 0 (.slice none 0 0)) := HF2.out.keep ((below_drewN (Below.refl w2.heap.size w2) 1).trans hb4); have HO4 : Hid (Own w4 w1.heap.size (.slice a2 p c2) ((l.drop 16).take p)) := ⟨HO2.out.1, own_below HO2.out.2 ((below_drewN (Below.refl w2.heap.size w2) 1).trans hb4)⟩; have HY4 : Hid (Bytes w4 (some ⟨g4, 0, none⟩) (Crcm.four (Crcm.sum ((l.drop 16).take p)))) := hy4; clear hb4 hy4)
          | (go_at_call 12; refine (same_at ((l.drop t).take 4) (Crcm.four (Crcm.sum ((l.drop 16).take p))) 4 4 _ _ _ _ _ HL4.out rfl (bytes_sub (HB.out.keep HB4.out) t 4) HY4.out (by rw [HL4.out]; unfold maxLen; omega) (by show 4 ≤ _; unfold maxLen; omega)).mono ?_; rw [HCV.out]; rintro r w5 ⟨rfl, q5, rfl⟩))
        have HF5 : Hid (FrmAt (w4.drewN q5) w.heap.size 0 0 (.slice none 0 0)) := HF4.out.drewN q5
        have HB5 : Hid (Below w.heap.size w (w4.drewN q5)) := below_drewN HB4.out q5
        go_wp2_with (((with_reducible refine frm_store 65 ?_); refine wpList_store_frm rfl _ _ rfl rfl HF5.out rfl rfl rfl ?_; intro w9 hf9 ho9 hh9 hs9; have HF9 : Hid (FrmAt w9 w.heap.size _ _ _) := hf9; have HB9 : Hid (Below w.heap.size w w9) := below_one HB5.out ho9 hh9 hs9 (Nat.le_refl _); clear hf9 ho9 hh9 hs9))
        refine bodyPost_ret (results_frm3 rfl _ _ w.heap.size rfl HF9.out) rfl ⟨.slice none 0 0, by rw [HD.out.1]; rfl, by rw [HD.out.2]; exact own_none _ _, HB9.out⟩
      · have HD : Hid (∀ v, _ ∧ _) := fun v => dv_good l v (by unfold decE; rw [if_neg (by omega), if_neg hsz, if_neg hcl])
        rw [hpp, hss, hkk] at HD
        have HCV : Hid (decide ((l.drop t).take 4 = Crcm.four (Crcm.sum ((l.drop 16).take p))) = true) := by show _ = _; rw [← HCB.out, ← hpp]; simpa using hcl
        have HQZ : Hid ((p : Int) + 20 = (q : Int)) := by show _ = _; omega
        clear hb hcap hl hn h1 h2 h4 h5 h6 hne hp hsz hpp hss hkk h16 hcl htE hq HCB
        go_enter Tryd.func34, Tryd.ntmps34
        go_wp2_with (first
          | (go_at_call 64; refine (HPK.out _ HB0.out).mono ?_; rw [HPV.out]; rintro r w1 ⟨rfl, hb1⟩; have HF1 : Hid (FrmAt w1 w.heap.size 0 0 (.slice none 0 0)) := HF0.out.keep hb1; have HB1 : Hid (Below w.heap.size w w1) := HB0.out.trans (hb1.mono (by simp)); clear hb1)
          | (go_at_call 15; refine (HCP.out _ HB1.out).mono ?_; rintro r w2 ⟨v2, rfl, ho2, hb2⟩; obtain ⟨a2, c2, hv2, hc2, _, hy2, hs2⟩ := ho2.shape; rw [HBD.out] at hv2 hc2; subst hv2; have HF2 : Hid (FrmAt w2 w.heap.size 0 0 (.slice none 0 0)) := HF1.out.keep hb2; have HB2 : Hid (Below w.heap.size w w2) := below_next HB1.out hb2; have HY2 : Hid (Bytes w2 a2 ((l.drop 16).take p)) := hy2; have HO2 : Hid (Own w2 w1.heap.size (.slice a2 p c2) ((l.drop 16).take p)) := ho2; have HS1 : Hid (w.heap.size < w1.heap.size) := lt_of_heap HF1.out; clear ho2 hb2 hy2 hs2))
        go_region_held3 (fun w' => True) (trivial) (first
          | (go_at_call 56; refine (rsum_any ((l.drop 16).take p) p _ _ _ HBD.out (HY2.out.drewN 1) (by rw [HBD.out]; exact hpm)).mono ?_; rintro r w3 ⟨rfl, rfl⟩)
          | (go_at_call 55; refine (rfour_any _ _ HSB.out).mono ?_; rintro r w4 ⟨g4, rfl, hy4, hb4⟩; have HB4 : Hid (Below w.heap.size w w4) := HB2.out.trans (((below_drewN (Below.refl w2.heap.size w2) 1).trans hb4).mono HB2.out.size); have HF4 : Hid (FrmAt w4 w.heap.size 0 0 (.slice none 0 0)) := HF2.out.keep ((below_drewN (Below.refl w2.heap.size w2) 1).trans hb4); have HO4 : Hid (Own w4 w1.heap.size (.slice a2 p c2) ((l.drop 16).take p)) := ⟨HO2.out.1, own_below HO2.out.2 ((below_drewN (Below.refl w2.heap.size w2) 1).trans hb4)⟩; have HY4 : Hid (Bytes w4 (some ⟨g4, 0, none⟩) (Crcm.four (Crcm.sum ((l.drop 16).take p)))) := hy4; clear hb4 hy4)
          | (go_at_call 12; refine (same_at ((l.drop t).take 4) (Crcm.four (Crcm.sum ((l.drop 16).take p))) 4 4 _ _ _ _ _ HL4.out rfl (bytes_sub (HB.out.keep HB4.out) t 4) HY4.out (by rw [HL4.out]; unfold maxLen; omega) (by show 4 ≤ _; unfold maxLen; omega)).mono ?_; rw [HCV.out]; rintro r w5 ⟨rfl, q5, rfl⟩))
        have HF5 : Hid (FrmAt (w4.drewN q5) w.heap.size 0 0 (.slice none 0 0)) := HF4.out.drewN q5
        have HB5 : Hid (Below w.heap.size w (w4.drewN q5)) := below_drewN HB4.out q5
        have HO5 : Hid (Own (w4.drewN q5) w1.heap.size (.slice a2 p c2) ((l.drop 16).take p)) := own_drewN HO4.out q5
        go_wp2_with (((with_reducible refine frm_store 65 ?_); refine wpList_store_frm rfl _ _ rfl rfl HF5.out rfl rfl rfl ?_; intro w9 hf9 ho9 hh9 hs9; have HF9 : Hid (FrmAt w9 w.heap.size _ _ _) := hf9; have HB9 : Hid (Below w.heap.size w w9) := below_one HB5.out ho9 hh9 hs9 (Nat.le_refl _); have HO9 : Hid (Own w9 w.heap.size (.slice a2 p c2) ((l.drop 16).take p)) := own_apart HO5.out hh9 HS1.out; clear hf9 ho9 hh9 hs9))
        refine bodyPost_ret (results_frm3 rfl _ _ w.heap.size rfl HF9.out) rfl ⟨.slice a2 p c2, by rw [(HD.out _).1, HQZ.out]; rfl, by rw [(HD.out (.slice none 0 0)).2]; exact HO9.out, HB9.out⟩
  · obtain ⟨e, he⟩ : ∃ e, peekE l = e := ⟨_, rfl⟩
    have HPV : Hid (PV l = _) := pv_bad l e he (by omega)
    have HD : Hid (_ ∧ _) := dv_bad l e (by unfold decE; rw [if_pos hp, he]) (by omega)
    have heI : ((e : Int) != 0) = true := by simp; omega
    clear hb hcap hl hn hp he
    go_enter Tryd.func34, Tryd.ntmps34
    go_wp2_with (first
      | (go_at_call 64; refine (HPK.out _ HB0.out).mono ?_; rw [HPV.out]; rintro r w1 ⟨rfl, hb1⟩; have HF1 : Hid (FrmAt w1 w.heap.size 0 0 (.slice none 0 0)) := HF0.out.keep hb1; have HB1 : Hid (Below w.heap.size w w1) := HB0.out.trans (hb1.mono (by simp)); clear hb1)
      | ((with_reducible refine frm_store 65 ?_); refine wpList_store_frm rfl _ _ rfl rfl HF1.out rfl rfl rfl ?_; intro w9 hf9 ho9 hh9 hs9; have HF9 : Hid (FrmAt w9 w.heap.size _ _ _) := hf9; have HB9 : Hid (Below w.heap.size w w9) := below_one HB1.out ho9 hh9 hs9 (Nat.le_refl _); clear hf9 ho9 hh9 hs9))
    refine bodyPost_ret (results_frm3 rfl _ _ w.heap.size rfl HF9.out) rfl ⟨.slice none 0 0, by rw [HD.out.1]; rfl, by rw [HD.out.2]; exact own_none _ _, HB9.out⟩
end Go.Proofs.YtaegmeilhdbnnaaDoor
