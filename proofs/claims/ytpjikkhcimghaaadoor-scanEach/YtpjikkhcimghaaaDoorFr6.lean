/- daybookref11: Same, Head. -/
import Derived.Test.YtpjikkhcimghaaaDoorFr4
import Derived.Test.YtpjikkhcimghaaaDoorRcrc
import Derived.Test.YtpjikkhcimghaaaDoorSame
namespace Go.Proofs.YtpjikkhcimghaaaDoor
open Go.ChangeShapes Go.WideShapes Go.ChangeAt Go.RowKit
set_option linter.unusedVariables false
set_option maxRecDepth 20000 in
set_option maxHeartbeats 1000000 in
theorem fsame_any (k1 s1 k2 s2 : Int) (l m : List Nat) (n1 n2 : Nat) (a1 a2 : Option Addr) (c1 c2 : Nat) (w : World) (e1 : l.length = n1) (e2 : m.length = n2) (hb1 : Bytes w a1 l) (hb2 : Bytes w a2 m) (hl : n1 ≤ maxLen) (hm : n2 ≤ maxLen) (hk : k1 = k2) (hs : s1 = s2) :
    Calls Tryd.prog 8 #[FrV k1 s1 (.slice a1 n1 c1), FrV k2 s2 (.slice a2 n2 c2)] w fun e w' => e = .returned (.bool (decide (l = m))) ∧ Below w.heap.size w w' := by
  subst hk hs
  have HBB : Hid (Below w.heap.size w ((w.alloc (.cells #[.int .i64 k1, .int .i64 s1, .slice a1 n1 c1] 32)).alloc (.cells #[.int .i64 k1, .int .i64 s1, .slice a2 n2 c2] 32))) := ((Below.refl _ _).alloc (Nat.le_refl _) _).alloc (by simp) _
  have HSM : Hid (∀ w', Below w.heap.size w w' → Calls Tryd.prog 15 #[.slice a1 n1 c1, .slice a2 n2 c2] w' fun e w'' => e = .returned (.bool (decide (l = m))) ∧ ∃ n, w'' = w'.drewN n) := fun w' hw' => same_at l m n1 n2 a1 a2 c1 c2 w' e1 e2 (hb1.keep hw') (hb2.keep hw') (by omega) (by omega)
  clear hb1 hb2 e1 e2 hl hm
  go_enter Tryd.func8, Tryd.ntmps8
  go_wp2_with (go_at_call 15; refine (HSM.out _ HBB.out).mono ?_; rintro r w1 ⟨rfl, nq, rfl⟩)
  all_goals go_ret
  all_goals exact ⟨by first | rfl | simp_all, below_drewN HBB.out nq⟩
theorem cells_four (w : World) (x y z t : Value) (e : TypeId) : ∀ j u, [x, y, z, t][j]? = some u → (w.alloc (.cells #[x, y, z, t] e)).cell? ((⟨w.heap.size, 0, none⟩ : Addr).add j) = some u := by
  intro j u hj
  match j, hj with
  | 0, hj => simp at hj; subst hj; simp [Addr.add]
  | 1, hj => simp at hj; subst hj; simp [Addr.add]
  | 2, hj => simp at hj; subst hj; simp [Addr.add]
  | 3, hj => simp at hj; subst hj; simp [Addr.add]
theorem own_lit (w : World) (l : List Nat) (h : ∀ i, l.getD i 0 < 256) (hm : l.length ≤ maxLen) : Own (w.alloc (.cells (B8 l).toArray 5)) w.heap.size (.slice (some ⟨w.heap.size, 0, none⟩) l.length l.length) l :=
  ⟨h, own_of_heap (Nat.le_refl _) hm (by simp [B8]) (by simp only [World.alloc, Array.getElem?_push]; rw [if_pos trivial])⟩
set_option maxRecDepth 20000 in
set_option maxHeartbeats 1000000 in
theorem rhead_any (k n s : Nat) (w : World) (hk : k ≤ 7) (hn : n ≤ 16384) (hs : s ≤ 1099511627776) :
    Calls Tryd.prog 23 #[.int .i64 k, .int .i64 n, .int .i64 s] w fun e w' => ∃ g cap, e = .returned (.slice (some ⟨g, 0, none⟩) 16 cap) ∧ Own w' w.heap.size (.slice (some ⟨g, 0, none⟩) 16 cap) (headL k n s) ∧ Below w.heap.size w w' := by
  obtain ⟨i0, hi, hz0, hz1, hz2⟩ := info_parts Tryd.info5f
  have hkI : (k : Int) ≤ 7 := by omega
  have hnI : (n : Int) ≤ 16384 := by omega
  have hsI : (s : Int) ≤ 1099511627776 := by omega
  have HO : Hid (Own (w.alloc (.cells #[.int .u8 165, .int .u8 (k : Int), .int .u8 ((n : Int) % 256), .int .u8 ((n : Int) / 256)] 5)) w.heap.size (.slice (some ⟨w.heap.size, 0, none⟩) 4 4) [165, k, n % 256, n / 256]) := by
    have h := own_lit w [165, k, n % 256, n / 256] (getD_lt (by intro x hx; simp at hx; omega)) (by simp [maxLen])
    have e : (B8 [165, k, n % 256, n / 256]).toArray = #[.int .u8 165, .int .u8 (k : Int), .int .u8 ((n : Int) % 256), .int .u8 ((n : Int) / 256)] := by
      simp [B8]
    rw [e] at h
    exact h
  have HHL : Hid (∀ i, (head12 k n s).getD i 0 < 256) := fun i => getD_lt (head12_lt k n s (by omega)) i
  have HHS : Hid (Crcm.sum (head12 k n s) < 4294967296) := Crcm.sum_lt _ (head12_lt k n s (by omega))
  have HH : Hid ([165, k, n % 256, n / 256] ++ le 8 s = head12 k n s) := by
    show _ = _
    unfold head12
    rw [le2, show n / 256 % 256 = n / 256 from by omega]
    rfl
  have HHF : Hid (∀ i, (headL k n s).getD i 0 < 256) := fun i => getD_lt (headL_lt k n s (by omega)) i
  go_enter Tryd.func23, Tryd.ntmps23
  go_wp2
  go_loopw [2, 7, 8] (fun vs vb vi wr => ∃ (j y : Nat), vi = .int .i64 j ∧ vs = .int .i64 y ∧ y = s / 256 ^ j ∧ y ≤ 1099511627776 ∧ j ≤ 8 ∧ Own wr w.heap.size vb ([165, k, n % 256, n / 256] ++ le j s) ∧ Below w.heap.size w wr) (fun _ _ vi _ => 8 - (intOf vi).toNat)
  case atStart => exact ⟨0, s, rfl, rfl, by simp, hs, Nat.zero_le _, by simpa [le] using HO.out, (Below.refl _ _).alloc (Nat.le_refl _) _⟩
  case round =>
    obtain ⟨j, y, rfl, rfl, hy, hyl, hj, ho, hbe⟩ := hrel
    have HY : Hid (y = s / 256 ^ j) := hy
    have hyI : (y : Int) ≤ 1099511627776 := by omega
    clear hy hyl HO
    have hsz := hbe.size
    have hlen : ([165, k, n % 256, n / 256] ++ le j s).length = 4 + j := by rw [List.length_append, le_length]; simp
    by_cases hlt : j < 8
    · have HU : Hid ((y : Int) % 256 = ((s / 256 ^ j % 256 : Nat) : Int)) := by show _ = _; rw [HY.out]; omega
      have HOJ : Hid (Own wr w.heap.size _ ([165, k, n % 256, n / 256] ++ le j s)) := ho
      have HLEN : Hid (([165, k, n % 256, n / 256] ++ le j s).length = 4 + j) := hlen
      clear hlen ho
      go_wp2_with (at_builtin; refine wpList_append_own _ rfl _ _ 22 rfl w.heap.size 5 i0 (.int .u8 0) 1 1 Tryd.underlying22 hi hz0 hz1 hz2 rfl (by decide) _ _ _ rfl (HOJ.out.2.alloc _) ⟨wr.heap.size, 0, none⟩ 1 1 [.int .u8 ((y : Int) % 256)] rfl rfl (cell_new _ _ _) (one_new _) (by rw [HLEN.out]; unfold maxLen; omega) (by rw [HLEN.out]; omega) (by simp; omega) ?_)
      intro v' w1 hown' hgrow _
      have hb1 := grown_row (hbe.alloc (by omega) _) (HOJ.out.2.alloc _) (by simp; omega) hgrow
      have HO1 : Hid (Own w1 w.heap.size v' ([165, k, n % 256, n / 256] ++ le (j + 1) s)) := by
        show Own _ _ _ _
        rw [le_snoc, ← List.append_assoc]
        refine Own.append HOJ.out.1 (getD_lt (by intro x hx; simp at hx; omega)) ?_
        rw [HU.out] at hown'
        exact hown'
      clear hgrow hbe hown' HOJ
      go_wp2
      go_roundw
      case rel =>
        refine ⟨j + 1, y / 256, by go_num, by go_num, ?_, by omega, by omega, HO1.out, hb1⟩
        rw [HY.out, Nat.div_div_eq_div_mul, Nat.pow_succ]
      case measure => simp [intOf]; omega
    · obtain rfl : j = 8 := by omega
      rw [HH.out] at ho
      obtain ⟨g, cap, hv, hcap, hby⟩ := ho.row (by simp [head12])
      rw [head12_length] at hv hcap
      subst hv
      have HO8 : Hid (Own wr w.heap.size (.slice (some ⟨g, 0, none⟩) 12 cap) (head12 k n s)) := ho
      have HBY : Hid (Bytes wr (some ⟨g, 0, none⟩) (head12 k n s)) := hby
      clear ho hby hlen
      go_wp2_with (first
        | (go_at_call 20; refine (rsum_any (head12 k n s) 12 _ _ _ (head12_length k n s) HBY.out (by rw [head12_length]; simp [maxLen])).mono ?_; rintro r w1 ⟨rfl, rfl⟩)
        | (go_at_call 19; refine (rfour_any _ _ HHS.out).mono ?_; rintro r w2 ⟨g2, rfl, hy2, hb2⟩; have ho2 := own_below HO8.out.2 hb2; have hs2 := hb2.size)
        | (at_builtin; refine wpList_append_own _ rfl _ _ 22 rfl w.heap.size 5 i0 (.int .u8 0) 1 1 Tryd.underlying22 hi hz0 hz1 hz2 rfl (by decide) _ _ _ rfl ho2 ⟨g2, 0, none⟩ 4 4 (B8 (Crcm.four (Crcm.sum (head12 k n s)))) rfl (B8_length _) (bytes_cells hy2) (B8_one _) (by rw [head12_length]; simp [maxLen]) (by rw [head12_length]; simp) (by omega) ?_; intro v3 w3 ho3 hg3 _; have hb3 := grown_row (hbe.trans (hb2.mono hsz)) ho2 (by omega) hg3; have HO3 : Hid (Own w3 w.heap.size v3 (headL k n s)) := Own.append HO8.out.1 (getD_lt (Crcm.four_lt _ HHS.out)) ho3; obtain ⟨g3, c3, hv3, hc3, _⟩ := HO3.out.row (by simp [headL, head12]); rw [headL_length] at hv3; subst hv3; clear hg3 ho3 ho2 hy2))
      go_ret
      exact ⟨g3, c3, rfl, HO3.out, hb3⟩
end Go.Proofs.YtpjikkhcimghaaaDoor
