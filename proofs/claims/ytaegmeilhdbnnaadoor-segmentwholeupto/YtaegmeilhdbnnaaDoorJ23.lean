/- Own texts, joined: Sg19, Sg20, Sgta, Sgtb. -/
import Derived.Test.YtaegmeilhdbnnaaDoorJ22
import Derived.Test.YtaegmeilhdbnnaaDoorJ13
import Derived.Test.YtaegmeilhdbnnaaDoorJ21
import Derived.Test.YtaegmeilhdbnnaaDoorJ15
namespace Go.Proofs.YtaegmeilhdbnnaaDoor
open Go.ChangeShapes Go.WideShapes Go.ChangeAt Go.RowKit
set_option linter.unusedVariables false
def FewP (num first : Int) (n : Nat) (L : Nat → List Nat) : Prop := (1 ≤ num ∧ num ≤ 999999 ∧ 1 ≤ first ∧ first ≤ 549755813888 ∧ 1 ≤ n ∧ n ≤ 512) ∧ ∀ i, i < n → (L i).length ≤ 16384
set_option maxRecDepth 20000 in
set_option maxHeartbeats 2000000 in
theorem few_any (num first : Int) (n : Nat) (a : Option Addr) (cap : Nat) (A : Nat → Option Addr) (L : Nat → List Nat) (C : Nat → Nat) (w : World) (hb : Pieces w a n A L C) (hl : n ≤ 1048576) (hL : ∀ i, i < n → (L i).length ≤ 1048576) :
    Calls Tryd.prog 26 #[.int .i64 num, .int .i64 first, .slice a n cap] w fun e w' => ((FewP num first n L ∧ e = .returned (.bool true)) ∨ (¬ FewP num first n L ∧ e = .returned (.bool false))) ∧ w = w' := by
  have HB : Hid (Pieces w a n A L C ∧ ∀ i, i < n → (L i).length ≤ 1048576) := ⟨hb, hL⟩
  have hnI : (n : Int) ≤ 1048576 := by omega
  clear hb hL
  by_cases q1 : num < 1
  · have HN : Hid (¬ FewP num first n L) := fun h => by have := h.1; omega
    go_enter Tryd.func26, Tryd.ntmps26
    go_wp2
    go_ret
    exact ⟨.inr ⟨HN.out, rfl⟩, rfl⟩
  by_cases q2 : 999999 < num
  · have HN : Hid (¬ FewP num first n L) := fun h => by have := h.1; omega
    go_enter Tryd.func26, Tryd.ntmps26
    go_wp2
    go_ret
    exact ⟨.inr ⟨HN.out, rfl⟩, rfl⟩
  by_cases q3 : first < 1
  · have HN : Hid (¬ FewP num first n L) := fun h => by have := h.1; omega
    go_enter Tryd.func26, Tryd.ntmps26
    go_wp2
    go_ret
    exact ⟨.inr ⟨HN.out, rfl⟩, rfl⟩
  by_cases q4 : 549755813888 < first
  · have HN : Hid (¬ FewP num first n L) := fun h => by have := h.1; omega
    go_enter Tryd.func26, Tryd.ntmps26
    go_wp2
    go_ret
    exact ⟨.inr ⟨HN.out, rfl⟩, rfl⟩
  by_cases q5 : n < 1
  · have HN : Hid (¬ FewP num first n L) := fun h => by have := h.1; omega
    have q5I : (n : Int) < 1 := by omega
    go_enter Tryd.func26, Tryd.ntmps26
    go_wp2
    go_ret
    exact ⟨.inr ⟨HN.out, rfl⟩, rfl⟩
  have q5I : ¬ (n : Int) < 1 := by omega
  by_cases q6 : 512 < n
  · have HN : Hid (¬ FewP num first n L) := fun h => by have := h.1; omega
    have q6I : (512 : Int) < (n : Int) := by omega
    go_enter Tryd.func26, Tryd.ntmps26
    go_wp2
    go_ret
    exact ⟨.inr ⟨HN.out, rfl⟩, rfl⟩
  have q6I : ¬ (512 : Int) < (n : Int) := by omega
  have HQ : Hid (1 ≤ num ∧ num ≤ 999999 ∧ 1 ≤ first ∧ first ≤ 549755813888 ∧ 1 ≤ n ∧ n ≤ 512) := ⟨by omega, by omega, by omega, by omega, by omega, by omega⟩
  rcases HB.out.1.1 with h0 | ⟨b, off, rfl, hlt, hcell⟩
  · omega
  have HC : Hid (∀ r, r < n → w.cell? ⟨b, off + r, none⟩ = some (.slice (A r) (L r).length (C r))) := hcell
  clear hcell
  go_enter Tryd.func26, Tryd.ntmps26
  go_wp2
  go_loopw [34] (fun vi wr => ∃ k : Nat, k ≤ n ∧ vi = .int .i64 k ∧ (∀ i, i < k → (L i).length ≤ 16384) ∧ w = wr) (fun vi _ => n - (intOf vi).toNat)
  case atStart => exact ⟨0, Nat.zero_le _, rfl, (fun i hi => by omega), rfl⟩
  case round =>
    obtain ⟨k, hk, rfl, hall, hwr⟩ := hrel
    subst hwr
    have HA : Hid (∀ i, i < k → (L i).length ≤ 16384) := hall
    clear hall
    by_cases hkn : k < n
    · have hc := HC.out k hkn
      obtain ⟨m, hm⟩ : ∃ m, (L k).length = m := ⟨_, rfl⟩
      rw [hm] at hc
      have hmb : m ≤ 1048576 := by rw [← hm]; exact HB.out.2 k hkn
      have hmI : (m : Int) ≤ 1048576 := by omega
      have HM : Hid ((L k).length = m) := hm
      have hkI : (k : Int) < (n : Int) := by omega
      clear hm
      by_cases hbig : 16384 < m
      · have hbI : (16384 : Int) < (m : Int) := by omega
        have HN : Hid (¬ FewP num first n L) := fun h => by have h1 := h.2 k hkn; rw [HM.out] at h1; omega
        go_wp2
        go_ret
        exact ⟨.inr ⟨HN.out, rfl⟩, rfl⟩
      · have hbI : ¬ (16384 : Int) < (m : Int) := by omega
        go_wp2
        go_roundw
        case rel => exact ⟨k + 1, by omega, by go_num, (fun i hi => by
          by_cases hik : i = k
          · rw [hik, HM.out]; omega
          · exact HA.out i (by omega)), by first | rfl | trivial⟩
        case measure => simp [intOf]; omega
    · obtain rfl : k = n := by omega
      go_wp2
      go_ret
      exact ⟨.inl ⟨⟨HQ.out, HA.out⟩, rfl⟩, rfl⟩
/-- where the events end -/
def endW (h y : Nat) (A : Nat → Option Addr) (L : Nat → List Nat) (C : Nat → Nat) (n : Nat) : List Value := (List.range n).map fun i => .int .i64 ((h : Int) + ((layF (evF y (i + 1) A L C)).length : Int))
theorem endW_succ (h y : Nat) (A : Nat → Option Addr) (L : Nat → List Nat) (C : Nat → Nat) (k : Nat) : endW h y A L C (k + 1) = endW h y A L C k ++ [.int .i64 ((h : Int) + ((layF (evF y (k + 1) A L C)).length : Int))] := by
  unfold endW; rw [List.range_succ, List.map_append]; rfl
theorem evF_succ (y : Nat) (A : Nat → Option Addr) (L : Nat → List Nat) (C : Nat → Nat) (k : Nat) : evF y (k + 1) A L C = evF y k A L C ++ [⟨1, ((y + k : Nat) : Int), L k, A k, C k⟩] := by
  unfold evF
  rw [List.range_succ, List.map_append]
  rfl
set_option maxRecDepth 20000 in
set_option maxHeartbeats 4000000 in
theorem laid14_any (x y n : Nat) (a : Option Addr) (cap : Nat) (A : Nat → Option Addr) (L : Nat → List Nat) (C : Nat → Nat) (w : World) (hb : Pieces w a n A L C) (hx1 : 1 ≤ x) (hx : x ≤ 999999) (hy1 : 1 ≤ y) (hy : y ≤ 549755813888) (hn1 : 1 ≤ n) (hn : n ≤ 512) (hE : EvB n L) (ht : Tab w) :
    Calls Tryd.prog 27 #[.int .i64 (x : Int), .int .i64 (y : Int), .slice a n cap] w fun e w' => ∃ vb ve, e = .returned (.tuple #[vb, ve, .bool true]) ∧ Own w' w.heap.size vb (hdrL x y ++ layF (evF y n A L C)) ∧ w'.ownsRow w.heap.size 3 1 ve n (endW (hdrL x y).length y A L C n) ∧ Below w.heap.size w w' := by
  obtain ⟨i0, hi, hz0, hz1, hz2⟩ := info_parts Tryd.info5
  obtain ⟨j0, ji, jz0, jz1, jz2⟩ := info_parts Tryd.infoSg
  obtain ⟨h, hh⟩ : ∃ h, (hdrL x y).length = h := ⟨_, rfl⟩
  have hh42 : h ≤ 42 := by rw [← hh, hdrL_len]; have := (hdr_body x y hx (by omega)).2; omega
  have hsB : sgB (x : Int) (y : Int) = true := decide_eq_true ⟨by omega, by omega, by omega, by omega⟩
  have HV : Hid (hdE (x : Int) (y : Int) = 0 ∧ hdV (x : Int) (y : Int) = hdrL x y ∧ (hdrL x y).length = h) := ⟨by unfold hdE; rw [if_pos hsB], by unfold hdV; rw [if_pos hsB]; rfl, hh⟩
  have HP : Hid (Pieces w a n A L C ∧ EvB n L ∧ Tab w) := ⟨hb, hE, ht⟩
  rcases hb.1 with h0 | ⟨b, off, rfl, hlt, hcell⟩
  · omega
  have HC : Hid (∀ r, r < n → w.cell? ⟨b, off + r, none⟩ = some (.slice (A r) (L r).length (C r))) := hcell
  have hnI : (n : Int) ≤ 512 := by omega
  have hyI : (y : Int) ≤ 549755813888 := by omega
  rw [hh]
  clear hcell hb hE ht hh hsB
  go_enter Tryd.func27, Tryd.ntmps27
  go_wp2_with (go_at_call 11; refine (header_any (x : Int) (y : Int) w HP.out.2.2).mono ?_; rw [HV.out.1, HV.out.2.1]; rintro r w1 ⟨v1, rfl, ho1, hb1⟩; have HB1 : Hid (Own w1 w.heap.size v1 (hdrL x y) ∧ Below w.heap.size w w1) := ⟨ho1, hb1⟩; have hs1 : w.heap.size ≤ w1.heap.size := hb1.size; clear ho1 hb1)
  go_loopw [9, 11, 26] (fun vb ve vi wr => ∃ (b0 e0 : Value) (k : Nat), b0 = vb ∧ e0 = ve ∧ k ≤ n ∧ vi = .int .i64 k ∧ Own wr w.heap.size b0 (hdrL x y ++ layF (evF y k A L C)) ∧ wr.ownsRow w.heap.size 3 1 e0 k (endW h y A L C k) ∧ Below w.heap.size w wr) (fun _ _ vi _ => n - (intOf vi).toNat)
  case atStart =>
    refine ⟨_, _, 0, rfl, rfl, Nat.zero_le _, rfl, ?_, ?_, HB1.out.2.alloc hs1 _⟩
    · have h := HB1.out.1
      rw [show layF (evF y 0 A L C) = [] from by simp [evF, layF], List.append_nil]
      exact ⟨h.1, World.ownsRow.alloc h.2 _⟩
    · have h := World.ownsRow_lit (base := w1.heap.size) (e := 3) (size := 1) w1 #[] 0 (Nat.le_refl _) (by simp) rfl
      exact World.ownsRow.mono (base' := w.heap.size) h hs1
  case round =>
    obtain ⟨vb, ve, k, rfl, rfl, hk, rfl, hOb, hOe, hbr⟩ := hrel
    have HR : Hid (Own wr w.heap.size vb (hdrL x y ++ layF (evF y k A L C)) ∧ wr.ownsRow w.heap.size 3 1 ve k (endW h y A L C k)) := ⟨hOb, hOe⟩
    clear hOb hOe
    have hsz := hbr.size
    by_cases hkn : k < n
    · have hc := HC.out k hkn
      obtain ⟨m, hm⟩ : ∃ m, (L k).length = m := ⟨_, rfl⟩
      rw [hm, ← hbr.cell (p := ⟨b, off + k, none⟩) hlt] at hc
      obtain ⟨hbm, hbl⟩ := HP.out.2.1 k hkn
      rw [hm] at hbl
      have HCP : Hid (∀ w1, Below wr.heap.size wr w1 → Calls Tryd.prog 15 #[.slice (A k) m (C k)] w1 fun e w' => ∃ v, e = .returned v ∧ Own w' w1.heap.size v (L k) ∧ Below w1.heap.size w1 w') := fun w1 hb1 => by
        have := copy_any (L k) (A k) (C k) w1 (((HP.out.1.2 k hkn).1.keep hbr).keep hb1) (by omega)
        rw [hm] at this
        exact this
      have HM : Hid ((L k).length = m) := hm
      obtain ⟨N, hN⟩ : ∃ N, (hdrL x y ++ layF (evF y k A L C)).length = N := ⟨_, rfl⟩
      have hNb : N ≤ 42 + 16404 * k := by
        rw [← hN, List.length_append, HV.out.2.2, layF_evF]
        have : tot L k ≤ 16384 * k := by
          have : ∀ j, j ≤ k → tot L j ≤ 16384 * j := by
            intro j
            induction j with
            | zero => intro _; simp [tot]
            | succ j ih => intro hj; have h1 := ih (by omega); have h2 := (HP.out.2.1 j (by omega)).2; rw [tot]; omega
          exact this k (Nat.le_refl _)
        omega
      have HN : Hid ((hdrL x y ++ layF (evF y k A L C)).length = N ∧ (N + (m + 20) : Nat) = h + (layF (evF y (k + 1) A L C)).length ∧ hdrL x y ++ layF (evF y (k + 1) A L C) = (hdrL x y ++ layF (evF y k A L C)) ++ frameL 1 (y + k) (L k)) := by
        have e2 : layF (evF y (k + 1) A L C) = layF (evF y k A L C) ++ frameL 1 (y + k) (L k) := by
          rw [evF_succ, layF_append]
          simp only [layF, List.append_nil]
          rfl
        refine ⟨hN, ?_, by rw [e2, List.append_assoc]⟩
        rw [e2, List.length_append, frameL_length, hm, ← hN, List.length_append, HV.out.2.2]
        omega
      have HEN : Hid (encE (1 : Int) ((y : Int) + (k : Int)) m = 0 ∧ encL (1 : Int) ((y : Int) + (k : Int)) (L k) = frameL 1 (y + k) (L k)) := by
        have h := enc_frame 1 (y + k) m (by omega) (by omega) (by omega) (by omega)
        have e : ((y + k : Nat) : Int) = (y : Int) + (k : Int) := by omega
        rw [e] at h
        refine ⟨h, ?_⟩
        unfold encL
        rw [hm]
        rw [show encE (1 : Int) ((y : Int) + (k : Int)) m = 0 from h, if_pos rfl, ← e]
        rfl
      have HFN : Hid (frameL 1 (y + k) (L k) ≠ [] ∧ (frameL 1 (y + k) (L k)).length = m + 20) := by
        have h1 : (frameL 1 (y + k) (L k)).length = m + 20 := by rw [frameL_length, hm]
        exact ⟨fun h => by rw [h] at h1; simp at h1, h1⟩
      have HTR : Hid (Tab wr) := HP.out.2.2.keep hbr
      have hkI : (k : Int) < (n : Int) := by omega
      have hmI : (m : Int) ≤ 16384 := by omega
      have hNI : (N : Int) ≤ 8400000 := by omega
      clear hm hN hbm
      go_wp2_with (first
        | (go_at_call 15; refine (HCP.out _ (Below.refl _ _)).mono ?_; rintro e w3 ⟨v3, rfl, ho3, hb3⟩; obtain ⟨a3, s3, hv3, _⟩ := ho3.shape; rw [HM.out] at hv3; subst hv3; have HO3 : Hid (Own w3 wr.heap.size (.slice a3 m s3) (L k) ∧ Below wr.heap.size wr w3) := ⟨ho3, hb3⟩; clear ho3 hb3)
        | (go_at_call 32; refine (fenc_any 1 ((y : Int) + (k : Int)) (L k) m a3 s3 w3 HM.out (by obtain ⟨_, _, h1, _, _, h2, _⟩ := HO3.out.1.shape; simp only [Value.slice.injEq] at h1; rw [h1.1]; exact h2) (own_addr HO3.out.1).1 (by omega) (own_addr HO3.out.1).2 (HTR.out.keep HO3.out.2)).mono ?_; rw [HEN.out.1, HEN.out.2]; rintro e w4 ⟨v4, rfl, ho4, hb4⟩; obtain ⟨g4, p4, hv4, _, hy4⟩ := ho4.row HFN.out.1; rw [HFN.out.2] at hv4; subst hv4; have hb4' := below_next HO3.out.2 hb4; have HY4 : Hid (Bytes w4 (some ⟨g4, 0, none⟩) (frameL 1 (y + k) (L k)) ∧ (∀ i, (frameL 1 (y + k) (L k)).getD i 0 < 256) ∧ Below w.heap.size w w4) := ⟨hy4, ho4.1, hbr.trans (hb4'.mono hsz)⟩; have HO4 : Hid (w4.ownsRow w.heap.size 5 1 vb N (B8 (hdrL x y ++ layF (evF y k A L C))) ∧ w4.ownsRow w.heap.size 3 1 ve k (endW h y A L C k)) := ⟨by have h := own_below HR.out.1.2 hb4'; rw [HN.out.1] at h; exact h, own_below HR.out.2 hb4'⟩; have hs4 : w.heap.size ≤ w4.heap.size := HY4.out.2.2.size; clear ho4 hb4 hy4 hb4')
        | (at_builtin; refine wpList_append_own _ rfl _ _ 22 rfl w.heap.size 5 i0 (.int .u8 0) 1 1 Tryd.underlying22 hi hz0 hz1 hz2 rfl (by decide) _ _ _ rfl HO4.out.1 ⟨g4, 0, none⟩ (m + 20) p4 (B8 (frameL 1 (y + k) (L k))) rfl (by rw [B8_length, HFN.out.2, Nat.mul_one]) (bytes_cells HY4.out.1) (B8_one _) (by unfold maxLen; omega) (by omega) hs4 ?_; intro v5 w5 ho5 hg5 _; have HW5 : Hid (Below w.heap.size w w5) := grown_row HY4.out.2.2 HO4.out.1 hs4 hg5; have HO5 : Hid (Own w5 w.heap.size v5 (hdrL x y ++ layF (evF y (k + 1) A L C))) := (by show Own _ _ _ _; rw [HN.out.2.2]; exact Own.append HR.out.1.1 HY4.out.2.1 (by rw [HN.out.1, HFN.out.2]; exact ho5)); have HE5 : Hid (w5.ownsRow w.heap.size 3 1 ve k (endW h y A L C k)) := row_apart HO4.out.1 hg5 HO4.out.2 (by decide); obtain ⟨g5, p5, hv5⟩ := (show ∃ g5 p5, v5 = .slice (some ⟨g5, 0, none⟩) (N + (m + 20)) p5 from (by obtain ⟨g5, p5, h1, _⟩ := World.ownsRow.form ho5 (by omega); exact ⟨g5, p5, h1⟩)); subst hv5; have hs5 : w.heap.size ≤ w5.heap.size := HW5.out.size; clear ho5 hg5)
        | (at_builtin; refine wpList_append_own _ rfl _ _ 61 rfl w.heap.size 3 j0 (.int .i64 0) 1 8 Tryd.underlying61 ji jz0 jz1 jz2 rfl (by decide) _ _ _ rfl (World.ownsRow.alloc HE5.out _) ⟨w5.heap.size, 0, none⟩ 1 1 [.int .i64 ((N : Int) + ((m : Int) + 20))] rfl rfl (cell_new _ _ _) (one_new _) (by unfold maxLen; omega) (by omega) (by simp; omega) ?_; intro v6 w6 ho6 hg6 _; have HW6 : Hid (Below w.heap.size w w6) := grown_row (HW5.out.alloc hs5 _) (World.ownsRow.alloc HE5.out _) (by simp; omega) hg6; have HE6 : Hid (w6.ownsRow w.heap.size 3 1 v6 (k + 1) (endW h y A L C (k + 1))) := (by show World.ownsRow _ _ _ _ _ _ _; refine RowEq ho6 ?_; rw [endW_succ]; congr 2; have h2 := HN.out.2.1; congr 1; omega); have HO6 : Hid (Own w6 w.heap.size (.slice (some ⟨g5, 0, none⟩) (N + (m + 20)) p5) (hdrL x y ++ layF (evF y (k + 1) A L C))) := ⟨HO5.out.1, row_apart (World.ownsRow.alloc HE5.out _) hg6 (World.ownsRow.alloc HO5.out.2 _) (by decide)⟩; clear ho6 hg6))
      go_roundw
      case rel => exact ⟨_, v6, k + 1, rfl, rfl, by omega, by go_num, HO6.out, HE6.out, HW6.out⟩
      case measure => simp [intOf]; omega
    · obtain rfl : k = n := by omega
      go_wp2
      go_ret3
      exact ⟨vb, ve, rfl, HR.out.1, HR.out.2, hbr⟩
end Go.Proofs.YtaegmeilhdbnnaaDoor
namespace Go.Proofs.YtaegmeilhdbnnaaDoor.segmentTorn
open Go.ChangeShapes Go.WideShapes Go.ChangeAt Go.RowKit
set_option linter.unusedVariables false
theorem torn_form (l : List Nat) (x y k G : Nat) (h : hdr l = some (x, y) ∧ hoX l = x ∧ hoY l = y ∧ (sgE l).length = k ∧ sgG l = G ∧ sgF l = 0 ∧ sgN l = 0) : ∀ base e w', ScanP l base e w' → ∃ (a1 a2 : Option Addr) (c1 c2 k2 : Nat), e = .returned (.tuple #[SgV (x : Int) (y : Int) (k : Int) false 0 (.slice a2 k2 c2) (G : Int), .slice a1 k c1, .int .i64 0]) := by
  obtain ⟨h1, h2, h3, h4, h5, h6, h7⟩ := h
  rintro base e w' (⟨hn, _⟩ | ⟨_, xs, v, mv, q1, q2, q3, q4⟩)
  · rw [h1] at hn; cases hn
  · obtain ⟨a1, c1, hv⟩ := q3.shape
    obtain ⟨a2, c2, hv2, _⟩ := q4.shape
    have hx : xs.length = k := by rw [← h4, ← q1, List.length_map]
    rw [hx] at hv
    subst hv hv2
    refine ⟨a1, a2, c1, c2, (sgM l).length, ?_⟩
    rw [q2, h2, h3, h4, h5, h6, h7]
    simp
theorem lay_take (h : List Nat) (t : List Nat) (C : Nat) (hc : h.length ≤ C) : (h ++ t).take C = h ++ t.take (C - h.length) := by
  rw [List.take_append, List.take_of_length_le hc]
end Go.Proofs.YtaegmeilhdbnnaaDoor.segmentTorn
namespace Go.Proofs.YtaegmeilhdbnnaaDoor.segmentTorn
open Go.ChangeShapes Go.WideShapes Go.ChangeAt Go.RowKit
set_option linter.unusedVariables false
set_option maxRecDepth 20000 in
set_option maxHeartbeats 4000000 in
theorem torn_lo (x y n : Nat) (a : Option Addr) (cap : Nat) (A : Nat → Option Addr) (L : Nat → List Nat) (Cp : Nat → Nat) (cut : Int) (w : World) (HP : Hid (Pieces w a n A L Cp ∧ EvB n L ∧ Tab w ∧ FewP (x : Int) (y : Int) n L)) (hx1 : 1 ≤ x) (hx : x ≤ 999999) (hy1 : 1 ≤ y) (hy : y ≤ 549755813888) (hn1 : 1 ≤ n) (hn : n ≤ 512) (hlo : cut < (((hdrL x y).length : Nat) : Int)) :
    Calls Tryd.prog 8 #[.int .i64 (x : Int), .int .i64 (y : Int), .slice a n cap, .int .i64 cut] w fun e w' => e = .returned (.bool true) ∧ Below w.heap.size w w' := by
  obtain ⟨h, hh⟩ : ∃ h, (hdrL x y).length = h := ⟨_, rfl⟩
  obtain ⟨D, hD⟩ : ∃ D, h + (layF (evF y n A L Cp)).length = D := ⟨_, rfl⟩
  have hh42 : h ≤ 42 := by rw [← hh, hdrL_len]; have := (hdr_body x y hx (by omega)).2; omega
  have hh20 : 20 ≤ h := by rw [← hh, hdrL_len]; omega
  have hTn : ∀ k, k ≤ n → (layF (evF y k A L Cp)).length ≤ 16404 * k := fun k hk => by
    rw [layF_evF]
    have : ∀ j, j ≤ k → tot L j ≤ 16384 * j := by
      intro j
      induction j with
      | zero => intro _; simp [tot]
      | succ j ih => intro hj; have h1 := ih (by omega); have h2 := (HP.out.2.1 j (by omega)).2; rw [tot]; omega
    have := this k (Nat.le_refl _)
    omega
  have hD2 : D ≤ 8400000 := by have := hTn n (Nat.le_refl _); omega
  have hmono : ∀ k, k ≤ n → (layF (evF y k A L Cp)).length ≤ (layF (evF y n A L Cp)).length := fun k hk => by
    rw [layF_evF, layF_evF]
    have := tot_mono L hk
    omega
  have hbl : (hdrL x y ++ layF (evF y n A L Cp)).length = D := by rw [List.length_append, hh, hD]
  have HBL : Hid ((hdrL x y ++ layF (evF y n A L Cp)).length = D ∧ hdrL x y ++ layF (evF y n A L Cp) ≠ [] ∧ (hdrL x y).length = h ∧ h + (layF (evF y n A L Cp)).length = D) := ⟨hbl, fun he => by rw [he] at hbl; simp at hbl; omega, hh, hD⟩
  have hsB : sgB (x : Int) (y : Int) = true := decide_eq_true ⟨by omega, by omega, by omega, by omega⟩
  have HV : Hid (hdE (x : Int) (y : Int) = 0 ∧ hdV (x : Int) (y : Int) = hdrL x y ∧ (hdrL x y).length = h) := ⟨by unfold hdE; rw [if_pos hsB], by unfold hdV; rw [if_pos hsB]; rfl, hh⟩
  have HMN : Hid (∀ k, k ≤ n → (layF (evF y k A L Cp)).length ≤ (layF (evF y n A L Cp)).length) := hmono
  have HFW : Hid (∀ w1, Below w.heap.size w w1 → Calls Tryd.prog 26 #[.int .i64 (x : Int), .int .i64 (y : Int), .slice a n cap] w1 fun e w' => e = .returned (.bool true) ∧ w1 = w') := fun w1 hb1 =>
    (few_any (x : Int) (y : Int) n a cap A L Cp w1 (HP.out.1.keep hb1) (by omega) (fun i hi => by have := (HP.out.2.1 i hi).2; omega)).mono (by
      rintro e w' ⟨⟨_, h1⟩ | ⟨h1, _⟩, h2⟩
      · exact ⟨h1, h2⟩
      · exact absurd HP.out.2.2.2 h1)
  have HLD : Hid (∀ w1, Below w.heap.size w w1 → Calls Tryd.prog 27 #[.int .i64 (x : Int), .int .i64 (y : Int), .slice a n cap] w1 fun e w' => ∃ g2 c2 ge ce, e = .returned (.tuple #[.slice (some ⟨g2, 0, none⟩) D c2, .slice (some ⟨ge, 0, none⟩) n ce, .bool true]) ∧ D ≤ c2 ∧ Bytes w' (some ⟨g2, 0, none⟩) (hdrL x y ++ layF (evF y n A L Cp)) ∧ ge < w'.heap.size ∧ (∀ j, j < n → w'.cell? ⟨ge, j, none⟩ = some (.int .i64 ((h + (layF (evF y (j + 1) A L Cp)).length : Nat) : Int))) ∧ Below w1.heap.size w1 w') := fun w1 hb1 =>
    (laid14_any x y n a cap A L Cp w1 (HP.out.1.keep hb1) hx1 hx hy1 hy hn1 hn HP.out.2.1 (HP.out.2.2.1.keep hb1)).mono (by
      rintro e w' ⟨vb, ve, rfl, h2, h3, hb⟩
      obtain ⟨g2, c2, hv2, hc2, hy2⟩ := h2.row HBL.out.2.1
      rw [HBL.out.1] at hv2 hc2
      obtain ⟨ge, ce, hv, _, hlt⟩ := World.ownsRow.form h3 (by omega)
      subst hv hv2
      refine ⟨g2, c2, ge, ce, rfl, hc2, hy2, hlt, fun j hj => ?_, hb⟩
      rw [World.ownsRow.cellAt h3 j (by omega)]
      unfold endW
      rw [List.getElem?_map, List.getElem?_range hj, HBL.out.2.2.1]
      simp)
  have hxI : (x : Int) ≤ 999999 := by omega
  have hyI : (y : Int) ≤ 549755813888 := by omega
  have hnI : (n : Int) ≤ 512 := by omega
  have hDI : (D : Int) ≤ 8400000 := by omega
  have hhI : (h : Int) ≤ 42 := by omega
  have hhD : (h : Int) ≤ (D : Int) := by omega
  rw [hh] at hlo
  clear hh hD hTn hmono hbl hsB
  go_enter Tryd.func8, Tryd.ntmps8
  go_wp2_with (first
    | (go_at_call 9; refine (head14_any w HP.out.2.2.1).mono ?_; rintro e w1 ⟨rfl, hb1⟩; have HB1 : Hid (Below w.heap.size w w1) := hb1; clear hb1)
    | (go_at_call 26; refine (HFW.out w1 HB1.out).mono ?_; rintro e w9 ⟨rfl, rfl⟩)
    | (go_at_call 27; refine (HLD.out w1 HB1.out).mono ?_; rintro e w2 ⟨g2, c2, ge, ce, rfl, hc2, hy2, hge, hcl, hb2⟩; have HB2 : Hid (Below w.heap.size w w2 ∧ Bytes w2 (some ⟨g2, 0, none⟩) (hdrL x y ++ layF (evF y n A L Cp)) ∧ ∀ j, j < n → w2.cell? ⟨ge, j, none⟩ = some (.int .i64 ((h + (layF (evF y (j + 1) A L Cp)).length : Nat) : Int))) := ⟨below_next HB1.out hb2, hy2, hcl⟩; clear hb2 hy2 hcl)
    | (go_at_call 11; refine (header_any (x : Int) (y : Int) w2 (HP.out.2.2.1.keep HB2.out.1)).mono ?_; rw [HV.out.1, HV.out.2.1]; rintro r w3 ⟨v3, rfl, ho3, hb3⟩; obtain ⟨a3, c3, hv3, _⟩ := ho3.shape; rw [HV.out.2.2] at hv3; subst hv3; have HB3 : Hid (Below w.heap.size w w3 ∧ Bytes w3 (some ⟨g2, 0, none⟩) (hdrL x y ++ layF (evF y n A L Cp)) ∧ ∀ j, j < n → w3.cell? ⟨ge, j, none⟩ = some (.int .i64 ((h + (layF (evF y (j + 1) A L Cp)).length : Nat) : Int))) := ⟨below_next HB2.out.1 hb3, HB2.out.2.1.keep hb3, fun j hj => (hb3.cell (p := ⟨ge, j, none⟩) hge).trans (HB2.out.2.2 j hj)⟩; have hge3 : ge < w3.heap.size := Nat.lt_of_lt_of_le hge hb3.size; clear ho3 hb3)
    | fail)
  go_loopw [14, 15] (fun vk vg wr => ∃ k G : Nat, k ≤ n ∧ vk = .int .i64 k ∧ vg = .int .i64 G ∧ G = h + (layF (evF y k A L Cp)).length ∧ G ≤ D ∧ w3 = wr) (fun vk _ _ => n - (intOf vk).toNat)
  case atStart => exact ⟨0, h, Nat.zero_le _, rfl, rfl, by simp [evF, layF], by omega, rfl⟩
  case round =>
    obtain ⟨k, G, hk, rfl, rfl, hG, hGC, hwr⟩ := hrel
    subst hwr
    have HG : Hid (G = h + (layF (evF y k A L Cp)).length) := hG
    have hGCI : (G : Int) ≤ (D : Int) := by omega
    clear hG
    by_cases hkn : k < n
    · obtain ⟨E1, hE1⟩ : ∃ E1, h + (layF (evF y (k + 1) A L Cp)).length = E1 := ⟨_, rfl⟩
      have ce0 := HB3.out.2.2 k hkn
      rw [hE1] at ce0
      have hE1D : E1 ≤ D := by have h1 := HMN.out (k + 1) hkn; have h2 := HBL.out.2.2.2; omega
      have HE1 : Hid (h + (layF (evF y (k + 1) A L Cp)).length = E1) := hE1
      have hkI : (k : Int) < (n : Int) := by omega
      clear hE1
      by_cases hle : E1 ≤ D
      · have hleI : (E1 : Int) ≤ (D : Int) := by omega
        have d1 : decide ((E1 : Int) ≤ (D : Int)) = true := by simp; omega
        go_wp2
        go_roundw
        case rel => exact ⟨k + 1, E1, by omega, by go_num, by go_num, HE1.out.symm, hle, by first | rfl | trivial⟩
        case measure => simp [intOf]; omega
      · omega
    · obtain rfl : k = n := by omega
      have hGD : G = D := by have := HG.out; have := HBL.out.2.2.2; omega
      have hsc := seg_cut x y k A L Cp hx1 hx hy1 hy hn HP.out.2.1 k (D - h) hk (by have := HG.out; omega) (.inl ⟨rfl, by have := HBL.out.2.2.2; omega⟩) ((hdrL x y ++ layF (evF y k A L Cp)).take D) (by rw [lay_take _ _ _ (by rw [HBL.out.2.2.1]; omega), HBL.out.2.2.1])
      rw [HBL.out.2.2.1, ← HG.out] at hsc
      have HSC : Hid (_) := torn_form ((hdrL x y ++ layF (evF y k A L Cp)).take D) x y k G hsc
      have HYC : Hid (Bytes w3 (some ⟨g2, 0, none⟩) ((hdrL x y ++ layF (evF y k A L Cp)).take D) ∧ ((hdrL x y ++ layF (evF y k A L Cp)).take D).length = D) := ⟨HB3.out.2.1.take D, by rw [List.length_take, HBL.out.1]; omega⟩
      have hCc2 : (D : Int) ≤ (c2 : Int) := by omega
      clear hsc hGD
      go_wp2_with (first
        | (go_at_call 17; refine (scan14_any ((hdrL x y ++ layF (evF y k A L Cp)).take D) D (some ⟨g2, 0, none⟩) c2 w3 HYC.out.2 HYC.out.1 (by omega) (by omega) (HP.out.2.2.1.keep HB3.out.1)).mono ?_; rintro r w4 ⟨hs4, hb4⟩; obtain ⟨a4, a5, c4, c5, k5, rfl⟩ := HSC.out _ _ _ hs4; have HB4 : Hid (Below w.heap.size w w4) := below_next HB3.out.1 hb4; clear hs4 hb4)
        | fail)
      go_ret
      exact ⟨rfl, HB4.out.alloc HB4.out.size _⟩
end Go.Proofs.YtaegmeilhdbnnaaDoor.segmentTorn
namespace Go.Proofs.YtaegmeilhdbnnaaDoor.segmentTorn
open Go.ChangeShapes Go.WideShapes Go.ChangeAt Go.RowKit
set_option linter.unusedVariables false
set_option maxRecDepth 20000 in
set_option maxHeartbeats 4000000 in
theorem torn_hi (x y n : Nat) (a : Option Addr) (cap : Nat) (A : Nat → Option Addr) (L : Nat → List Nat) (Cp : Nat → Nat) (cut : Int) (w : World) (HP : Hid (Pieces w a n A L Cp ∧ EvB n L ∧ Tab w ∧ FewP (x : Int) (y : Int) n L)) (hx1 : 1 ≤ x) (hx : x ≤ 999999) (hy1 : 1 ≤ y) (hy : y ≤ 549755813888) (hn1 : 1 ≤ n) (hn : n ≤ 512) (hlo : ¬ cut < (((hdrL x y).length : Nat) : Int)) (hhi : (((hdrL x y).length + (layF (evF y n A L Cp)).length : Nat) : Int) < cut) :
    Calls Tryd.prog 8 #[.int .i64 (x : Int), .int .i64 (y : Int), .slice a n cap, .int .i64 cut] w fun e w' => e = .returned (.bool true) ∧ Below w.heap.size w w' := by
  obtain ⟨h, hh⟩ : ∃ h, (hdrL x y).length = h := ⟨_, rfl⟩
  obtain ⟨D, hD⟩ : ∃ D, h + (layF (evF y n A L Cp)).length = D := ⟨_, rfl⟩
  have hh42 : h ≤ 42 := by rw [← hh, hdrL_len]; have := (hdr_body x y hx (by omega)).2; omega
  have hh20 : 20 ≤ h := by rw [← hh, hdrL_len]; omega
  have hTn : ∀ k, k ≤ n → (layF (evF y k A L Cp)).length ≤ 16404 * k := fun k hk => by
    rw [layF_evF]
    have : ∀ j, j ≤ k → tot L j ≤ 16384 * j := by
      intro j
      induction j with
      | zero => intro _; simp [tot]
      | succ j ih => intro hj; have h1 := ih (by omega); have h2 := (HP.out.2.1 j (by omega)).2; rw [tot]; omega
    have := this k (Nat.le_refl _)
    omega
  have hD2 : D ≤ 8400000 := by have := hTn n (Nat.le_refl _); omega
  have hmono : ∀ k, k ≤ n → (layF (evF y k A L Cp)).length ≤ (layF (evF y n A L Cp)).length := fun k hk => by
    rw [layF_evF, layF_evF]
    have := tot_mono L hk
    omega
  have hbl : (hdrL x y ++ layF (evF y n A L Cp)).length = D := by rw [List.length_append, hh, hD]
  have HBL : Hid ((hdrL x y ++ layF (evF y n A L Cp)).length = D ∧ hdrL x y ++ layF (evF y n A L Cp) ≠ [] ∧ (hdrL x y).length = h ∧ h + (layF (evF y n A L Cp)).length = D) := ⟨hbl, fun he => by rw [he] at hbl; simp at hbl; omega, hh, hD⟩
  have hsB : sgB (x : Int) (y : Int) = true := decide_eq_true ⟨by omega, by omega, by omega, by omega⟩
  have HV : Hid (hdE (x : Int) (y : Int) = 0 ∧ hdV (x : Int) (y : Int) = hdrL x y ∧ (hdrL x y).length = h) := ⟨by unfold hdE; rw [if_pos hsB], by unfold hdV; rw [if_pos hsB]; rfl, hh⟩
  have HMN : Hid (∀ k, k ≤ n → (layF (evF y k A L Cp)).length ≤ (layF (evF y n A L Cp)).length) := hmono
  have HFW : Hid (∀ w1, Below w.heap.size w w1 → Calls Tryd.prog 26 #[.int .i64 (x : Int), .int .i64 (y : Int), .slice a n cap] w1 fun e w' => e = .returned (.bool true) ∧ w1 = w') := fun w1 hb1 =>
    (few_any (x : Int) (y : Int) n a cap A L Cp w1 (HP.out.1.keep hb1) (by omega) (fun i hi => by have := (HP.out.2.1 i hi).2; omega)).mono (by
      rintro e w' ⟨⟨_, h1⟩ | ⟨h1, _⟩, h2⟩
      · exact ⟨h1, h2⟩
      · exact absurd HP.out.2.2.2 h1)
  have HLD : Hid (∀ w1, Below w.heap.size w w1 → Calls Tryd.prog 27 #[.int .i64 (x : Int), .int .i64 (y : Int), .slice a n cap] w1 fun e w' => ∃ g2 c2 ge ce, e = .returned (.tuple #[.slice (some ⟨g2, 0, none⟩) D c2, .slice (some ⟨ge, 0, none⟩) n ce, .bool true]) ∧ D ≤ c2 ∧ Bytes w' (some ⟨g2, 0, none⟩) (hdrL x y ++ layF (evF y n A L Cp)) ∧ ge < w'.heap.size ∧ (∀ j, j < n → w'.cell? ⟨ge, j, none⟩ = some (.int .i64 ((h + (layF (evF y (j + 1) A L Cp)).length : Nat) : Int))) ∧ Below w1.heap.size w1 w') := fun w1 hb1 =>
    (laid14_any x y n a cap A L Cp w1 (HP.out.1.keep hb1) hx1 hx hy1 hy hn1 hn HP.out.2.1 (HP.out.2.2.1.keep hb1)).mono (by
      rintro e w' ⟨vb, ve, rfl, h2, h3, hb⟩
      obtain ⟨g2, c2, hv2, hc2, hy2⟩ := h2.row HBL.out.2.1
      rw [HBL.out.1] at hv2 hc2
      obtain ⟨ge, ce, hv, _, hlt⟩ := World.ownsRow.form h3 (by omega)
      subst hv hv2
      refine ⟨g2, c2, ge, ce, rfl, hc2, hy2, hlt, fun j hj => ?_, hb⟩
      rw [World.ownsRow.cellAt h3 j (by omega)]
      unfold endW
      rw [List.getElem?_map, List.getElem?_range hj, HBL.out.2.2.1]
      simp)
  have hxI : (x : Int) ≤ 999999 := by omega
  have hyI : (y : Int) ≤ 549755813888 := by omega
  have hnI : (n : Int) ≤ 512 := by omega
  have hDI : (D : Int) ≤ 8400000 := by omega
  have hhI : (h : Int) ≤ 42 := by omega
  have hhD : (h : Int) ≤ (D : Int) := by omega
  rw [hh] at hlo hhi
  rw [hD] at hhi
  clear hh hD hTn hmono hbl hsB
  go_enter Tryd.func8, Tryd.ntmps8
  go_wp2_with (first
    | (go_at_call 9; refine (head14_any w HP.out.2.2.1).mono ?_; rintro e w1 ⟨rfl, hb1⟩; have HB1 : Hid (Below w.heap.size w w1) := hb1; clear hb1)
    | (go_at_call 26; refine (HFW.out w1 HB1.out).mono ?_; rintro e w9 ⟨rfl, rfl⟩)
    | (go_at_call 27; refine (HLD.out w1 HB1.out).mono ?_; rintro e w2 ⟨g2, c2, ge, ce, rfl, hc2, hy2, hge, hcl, hb2⟩; have HB2 : Hid (Below w.heap.size w w2 ∧ Bytes w2 (some ⟨g2, 0, none⟩) (hdrL x y ++ layF (evF y n A L Cp)) ∧ ∀ j, j < n → w2.cell? ⟨ge, j, none⟩ = some (.int .i64 ((h + (layF (evF y (j + 1) A L Cp)).length : Nat) : Int))) := ⟨below_next HB1.out hb2, hy2, hcl⟩; clear hb2 hy2 hcl)
    | (go_at_call 11; refine (header_any (x : Int) (y : Int) w2 (HP.out.2.2.1.keep HB2.out.1)).mono ?_; rw [HV.out.1, HV.out.2.1]; rintro r w3 ⟨v3, rfl, ho3, hb3⟩; obtain ⟨a3, c3, hv3, _⟩ := ho3.shape; rw [HV.out.2.2] at hv3; subst hv3; have HB3 : Hid (Below w.heap.size w w3 ∧ Bytes w3 (some ⟨g2, 0, none⟩) (hdrL x y ++ layF (evF y n A L Cp)) ∧ ∀ j, j < n → w3.cell? ⟨ge, j, none⟩ = some (.int .i64 ((h + (layF (evF y (j + 1) A L Cp)).length : Nat) : Int))) := ⟨below_next HB2.out.1 hb3, HB2.out.2.1.keep hb3, fun j hj => (hb3.cell (p := ⟨ge, j, none⟩) hge).trans (HB2.out.2.2 j hj)⟩; have hge3 : ge < w3.heap.size := Nat.lt_of_lt_of_le hge hb3.size; clear ho3 hb3)
    | fail)
  go_loopw [14, 15] (fun vk vg wr => ∃ k G : Nat, k ≤ n ∧ vk = .int .i64 k ∧ vg = .int .i64 G ∧ G = h + (layF (evF y k A L Cp)).length ∧ G ≤ D ∧ w3 = wr) (fun vk _ _ => n - (intOf vk).toNat)
  case atStart => exact ⟨0, h, Nat.zero_le _, rfl, rfl, by simp [evF, layF], by omega, rfl⟩
  case round =>
    obtain ⟨k, G, hk, rfl, rfl, hG, hGC, hwr⟩ := hrel
    subst hwr
    have HG : Hid (G = h + (layF (evF y k A L Cp)).length) := hG
    have hGCI : (G : Int) ≤ (D : Int) := by omega
    clear hG
    by_cases hkn : k < n
    · obtain ⟨E1, hE1⟩ : ∃ E1, h + (layF (evF y (k + 1) A L Cp)).length = E1 := ⟨_, rfl⟩
      have ce0 := HB3.out.2.2 k hkn
      rw [hE1] at ce0
      have hE1D : E1 ≤ D := by have h1 := HMN.out (k + 1) hkn; have h2 := HBL.out.2.2.2; omega
      have HE1 : Hid (h + (layF (evF y (k + 1) A L Cp)).length = E1) := hE1
      have hkI : (k : Int) < (n : Int) := by omega
      clear hE1
      by_cases hle : E1 ≤ D
      · have hleI : (E1 : Int) ≤ (D : Int) := by omega
        have d1 : decide ((E1 : Int) ≤ (D : Int)) = true := by simp; omega
        go_wp2
        go_roundw
        case rel => exact ⟨k + 1, E1, by omega, by go_num, by go_num, HE1.out.symm, hle, by first | rfl | trivial⟩
        case measure => simp [intOf]; omega
      · omega
    · obtain rfl : k = n := by omega
      have hGD : G = D := by have := HG.out; have := HBL.out.2.2.2; omega
      have hsc := seg_cut x y k A L Cp hx1 hx hy1 hy hn HP.out.2.1 k (D - h) hk (by have := HG.out; omega) (.inl ⟨rfl, by have := HBL.out.2.2.2; omega⟩) ((hdrL x y ++ layF (evF y k A L Cp)).take D) (by rw [lay_take _ _ _ (by rw [HBL.out.2.2.1]; omega), HBL.out.2.2.1])
      rw [HBL.out.2.2.1, ← HG.out] at hsc
      have HSC : Hid (_) := torn_form ((hdrL x y ++ layF (evF y k A L Cp)).take D) x y k G hsc
      have HYC : Hid (Bytes w3 (some ⟨g2, 0, none⟩) ((hdrL x y ++ layF (evF y k A L Cp)).take D) ∧ ((hdrL x y ++ layF (evF y k A L Cp)).take D).length = D) := ⟨HB3.out.2.1.take D, by rw [List.length_take, HBL.out.1]; omega⟩
      have hCc2 : (D : Int) ≤ (c2 : Int) := by omega
      clear hsc hGD
      go_wp2_with (first
        | (go_at_call 17; refine (scan14_any ((hdrL x y ++ layF (evF y k A L Cp)).take D) D (some ⟨g2, 0, none⟩) c2 w3 HYC.out.2 HYC.out.1 (by omega) (by omega) (HP.out.2.2.1.keep HB3.out.1)).mono ?_; rintro r w4 ⟨hs4, hb4⟩; obtain ⟨a4, a5, c4, c5, k5, rfl⟩ := HSC.out _ _ _ hs4; have HB4 : Hid (Below w.heap.size w w4) := below_next HB3.out.1 hb4; clear hs4 hb4)
        | fail)
      go_ret
      exact ⟨rfl, HB4.out.alloc HB4.out.size _⟩
end Go.Proofs.YtaegmeilhdbnnaaDoor.segmentTorn
