/- Own texts, joined: Sgtc. -/
import Derived.Test.YtaegmeilhdbnnaaDoorJ23
namespace Go.Proofs.YtaegmeilhdbnnaaDoor.segmentTorn
open Go.ChangeShapes Go.WideShapes Go.ChangeAt Go.RowKit
set_option linter.unusedVariables false
set_option maxRecDepth 20000 in
set_option maxHeartbeats 4000000 in
theorem torn_in (x y n : Nat) (a : Option Addr) (cap : Nat) (A : Nat → Option Addr) (L : Nat → List Nat) (Cp : Nat → Nat) (cut : Int) (w : World) (HP : Hid (Pieces w a n A L Cp ∧ EvB n L ∧ Tab w ∧ FewP (x : Int) (y : Int) n L)) (hx1 : 1 ≤ x) (hx : x ≤ 999999) (hy1 : 1 ≤ y) (hy : y ≤ 549755813888) (hn1 : 1 ≤ n) (hn : n ≤ 512) (hlo : ¬ cut < (((hdrL x y).length : Nat) : Int)) (hhi : ¬ (((hdrL x y).length + (layF (evF y n A L Cp)).length : Nat) : Int) < cut) :
    Calls Tryd.prog 8 #[.int .i64 (x : Int), .int .i64 (y : Int), .slice a n cap, .int .i64 cut] w fun e w' => e = .returned (.bool true) ∧ Below w.heap.size w w' := by
  obtain ⟨h, hh⟩ : ∃ h, (hdrL x y).length = h := ⟨_, rfl⟩
  obtain ⟨D, hD⟩ : ∃ D, h + (layF (evF y n A L Cp)).length = D := ⟨_, rfl⟩
  have hh42 : h ≤ 42 := by rw [← hh, hdrL_len]; have := (hdr_body x y hx (by omega)).2; omega
  have hh20 : 20 ≤ h := by rw [← hh, hdrL_len]; omega
  have hTn : ∀ k, k ≤ n → (layF (evF y k A L Cp)).length ≤ 16404 * k := fun k hk => by
    rw [layF_evF]
    have : ∀ j, j ≤ k → tot L j ≤ 16384 * j := by
      intro j
      induction j with
      | zero => intro _; simp [tot]
      | succ j ih => intro hj; have h1 := ih (by omega); have h2 := (HP.out.2.1 j (by omega)).2; rw [tot]; omega
    have := this k (Nat.le_refl _)
    omega
  have hD2 : D ≤ 8400000 := by have := hTn n (Nat.le_refl _); omega
  have hmono : ∀ k, k ≤ n → (layF (evF y k A L Cp)).length ≤ (layF (evF y n A L Cp)).length := fun k hk => by
    rw [layF_evF, layF_evF]
    have := tot_mono L hk
    omega
  have hbl : (hdrL x y ++ layF (evF y n A L Cp)).length = D := by rw [List.length_append, hh, hD]
  have HBL : Hid ((hdrL x y ++ layF (evF y n A L Cp)).length = D ∧ hdrL x y ++ layF (evF y n A L Cp) ≠ [] ∧ (hdrL x y).length = h ∧ h + (layF (evF y n A L Cp)).length = D) := ⟨hbl, fun he => by rw [he] at hbl; simp at hbl; omega, hh, hD⟩
  have hsB : sgB (x : Int) (y : Int) = true := decide_eq_true ⟨by omega, by omega, by omega, by omega⟩
  have HV : Hid (hdE (x : Int) (y : Int) = 0 ∧ hdV (x : Int) (y : Int) = hdrL x y ∧ (hdrL x y).length = h) := ⟨by unfold hdE; rw [if_pos hsB], by unfold hdV; rw [if_pos hsB]; rfl, hh⟩
  have HMN : Hid (∀ k, k ≤ n → (layF (evF y k A L Cp)).length ≤ (layF (evF y n A L Cp)).length) := hmono
  have HFW : Hid (∀ w1, Below w.heap.size w w1 → Calls Tryd.prog 26 #[.int .i64 (x : Int), .int .i64 (y : Int), .slice a n cap] w1 fun e w' => e = .returned (.bool true) ∧ w1 = w') := fun w1 hb1 =>
    (few_any (x : Int) (y : Int) n a cap A L Cp w1 (HP.out.1.keep hb1) (by omega) (fun i hi => by have := (HP.out.2.1 i hi).2; omega)).mono (by
      rintro e w' ⟨⟨_, h1⟩ | ⟨h1, _⟩, h2⟩
      · exact ⟨h1, h2⟩
      · exact absurd HP.out.2.2.2 h1)
  have HLD : Hid (∀ w1, Below w.heap.size w w1 → Calls Tryd.prog 27 #[.int .i64 (x : Int), .int .i64 (y : Int), .slice a n cap] w1 fun e w' => ∃ g2 c2 ge ce, e = .returned (.tuple #[.slice (some ⟨g2, 0, none⟩) D c2, .slice (some ⟨ge, 0, none⟩) n ce, .bool true]) ∧ D ≤ c2 ∧ Bytes w' (some ⟨g2, 0, none⟩) (hdrL x y ++ layF (evF y n A L Cp)) ∧ ge < w'.heap.size ∧ (∀ j, j < n → w'.cell? ⟨ge, j, none⟩ = some (.int .i64 ((h + (layF (evF y (j + 1) A L Cp)).length : Nat) : Int))) ∧ Below w1.heap.size w1 w') := fun w1 hb1 =>
    (laid14_any x y n a cap A L Cp w1 (HP.out.1.keep hb1) hx1 hx hy1 hy hn1 hn HP.out.2.1 (HP.out.2.2.1.keep hb1)).mono (by
      rintro e w' ⟨vb, ve, rfl, h2, h3, hb⟩
      obtain ⟨g2, c2, hv2, hc2, hy2⟩ := h2.row HBL.out.2.1
      rw [HBL.out.1] at hv2 hc2
      obtain ⟨ge, ce, hv, _, hlt⟩ := World.ownsRow.form h3 (by omega)
      subst hv hv2
      refine ⟨g2, c2, ge, ce, rfl, hc2, hy2, hlt, fun j hj => ?_, hb⟩
      rw [World.ownsRow.cellAt h3 j (by omega)]
      unfold endW
      rw [List.getElem?_map, List.getElem?_range hj, HBL.out.2.2.1]
      simp)
  have hxI : (x : Int) ≤ 999999 := by omega
  have hyI : (y : Int) ≤ 549755813888 := by omega
  have hnI : (n : Int) ≤ 512 := by omega
  have hDI : (D : Int) ≤ 8400000 := by omega
  have hhI : (h : Int) ≤ 42 := by omega
  have hhD : (h : Int) ≤ (D : Int) := by omega
  rw [hh] at hlo hhi
  rw [hD] at hhi
  obtain ⟨C, hCe⟩ : ∃ C : Nat, cut = (C : Int) := ⟨cut.toNat, by omega⟩
  subst hCe
  have hCD : C ≤ D := by omega
  have hhC : h ≤ C := by omega
  have hhCI : ¬ (C : Int) < (h : Int) := by omega
  clear hlo
  clear hh hD hTn hmono hbl hsB
  go_enter Tryd.func8, Tryd.ntmps8
  go_wp2_with (first
    | (go_at_call 9; refine (head14_any w HP.out.2.2.1).mono ?_; rintro e w1 ⟨rfl, hb1⟩; have HB1 : Hid (Below w.heap.size w w1) := hb1; clear hb1)
    | (go_at_call 26; refine (HFW.out w1 HB1.out).mono ?_; rintro e w9 ⟨rfl, rfl⟩)
    | (go_at_call 27; refine (HLD.out w1 HB1.out).mono ?_; rintro e w2 ⟨g2, c2, ge, ce, rfl, hc2, hy2, hge, hcl, hb2⟩; have HB2 : Hid (Below w.heap.size w w2 ∧ Bytes w2 (some ⟨g2, 0, none⟩) (hdrL x y ++ layF (evF y n A L Cp)) ∧ ∀ j, j < n → w2.cell? ⟨ge, j, none⟩ = some (.int .i64 ((h + (layF (evF y (j + 1) A L Cp)).length : Nat) : Int))) := ⟨below_next HB1.out hb2, hy2, hcl⟩; clear hb2 hy2 hcl)
    | (go_at_call 11; refine (header_any (x : Int) (y : Int) w2 (HP.out.2.2.1.keep HB2.out.1)).mono ?_; rw [HV.out.1, HV.out.2.1]; rintro r w3 ⟨v3, rfl, ho3, hb3⟩; obtain ⟨a3, c3, hv3, _⟩ := ho3.shape; rw [HV.out.2.2] at hv3; subst hv3; have HB3 : Hid (Below w.heap.size w w3 ∧ Bytes w3 (some ⟨g2, 0, none⟩) (hdrL x y ++ layF (evF y n A L Cp)) ∧ ∀ j, j < n → w3.cell? ⟨ge, j, none⟩ = some (.int .i64 ((h + (layF (evF y (j + 1) A L Cp)).length : Nat) : Int))) := ⟨below_next HB2.out.1 hb3, HB2.out.2.1.keep hb3, fun j hj => (hb3.cell (p := ⟨ge, j, none⟩) hge).trans (HB2.out.2.2 j hj)⟩; have hge3 : ge < w3.heap.size := Nat.lt_of_lt_of_le hge hb3.size; clear ho3 hb3)
    | fail)
  go_loopw [14, 15] (fun vk vg wr => ∃ k G : Nat, k ≤ n ∧ vk = .int .i64 k ∧ vg = .int .i64 G ∧ G = h + (layF (evF y k A L Cp)).length ∧ G ≤ C ∧ w3 = wr) (fun vk _ _ => n - (intOf vk).toNat)
  case atStart => exact ⟨0, h, Nat.zero_le _, rfl, rfl, by simp [evF, layF], by omega, rfl⟩
  case round =>
    obtain ⟨k, G, hk, rfl, rfl, hG, hGC, hwr⟩ := hrel
    subst hwr
    have HG : Hid (G = h + (layF (evF y k A L Cp)).length) := hG
    have hGCI : (G : Int) ≤ (C : Int) := by omega
    clear hG
    by_cases hkn : k < n
    · obtain ⟨E1, hE1⟩ : ∃ E1, h + (layF (evF y (k + 1) A L Cp)).length = E1 := ⟨_, rfl⟩
      have ce0 := HB3.out.2.2 k hkn
      rw [hE1] at ce0
      have hE1D : E1 ≤ D := by have h1 := HMN.out (k + 1) hkn; have h2 := HBL.out.2.2.2; omega
      have HE1 : Hid (h + (layF (evF y (k + 1) A L Cp)).length = E1) := hE1
      have hkI : (k : Int) < (n : Int) := by omega
      clear hE1
      by_cases hle : E1 ≤ C
      · have hleI : (E1 : Int) ≤ (C : Int) := by omega
        have d1 : decide ((E1 : Int) ≤ (C : Int)) = true := by simp; omega
        go_wp2
        go_roundw
        case rel => exact ⟨k + 1, E1, by omega, by go_num, by go_num, HE1.out.symm, hle, by first | rfl | trivial⟩
        case measure => simp [intOf]; omega
      · have d1 : decide ((E1 : Int) ≤ (C : Int)) = false := by simp; omega
        have hleI : ¬ (E1 : Int) ≤ (C : Int) := by omega
        have hsc := seg_cut x y n A L Cp hx1 hx hy1 hy hn HP.out.2.1 k (C - h) hk (by have := HG.out; omega) (.inr ⟨hkn, by have := HE1.out; omega⟩) ((hdrL x y ++ layF (evF y n A L Cp)).take C) (by rw [lay_take _ _ _ (by rw [HBL.out.2.2.1]; omega), HBL.out.2.2.1])
        rw [HBL.out.2.2.1, ← HG.out] at hsc
        have HSC : Hid (_) := torn_form ((hdrL x y ++ layF (evF y n A L Cp)).take C) x y k G hsc
        have HYC : Hid (Bytes w3 (some ⟨g2, 0, none⟩) ((hdrL x y ++ layF (evF y n A L Cp)).take C) ∧ ((hdrL x y ++ layF (evF y n A L Cp)).take C).length = C) := ⟨HB3.out.2.1.take C, by rw [List.length_take, HBL.out.1]; omega⟩
        have hCc2 : (C : Int) ≤ (c2 : Int) := by omega
        clear hsc
        go_wp2_with (first
          | (go_at_call 17; refine (scan14_any ((hdrL x y ++ layF (evF y n A L Cp)).take C) C (some ⟨g2, 0, none⟩) c2 w3 HYC.out.2 HYC.out.1 (by omega) (by omega) (HP.out.2.2.1.keep HB3.out.1)).mono ?_; rintro r w4 ⟨hs4, hb4⟩; obtain ⟨a4, a5, c4, c5, k5, rfl⟩ := HSC.out _ _ _ hs4; have HB4 : Hid (Below w.heap.size w w4) := below_next HB3.out.1 hb4; clear hs4 hb4)
          | fail)
        go_ret
        exact ⟨rfl, HB4.out.alloc HB4.out.size _⟩
    · obtain rfl : k = n := by omega
      have hGD : G = D := by have := HG.out; have := HBL.out.2.2.2; omega
      obtain rfl : C = D := by omega
      have hsc := seg_cut x y k A L Cp hx1 hx hy1 hy hn HP.out.2.1 k (C - h) hk (by have := HG.out; omega) (.inl ⟨rfl, by have := HBL.out.2.2.2; omega⟩) ((hdrL x y ++ layF (evF y k A L Cp)).take C) (by rw [lay_take _ _ _ (by rw [HBL.out.2.2.1]; omega), HBL.out.2.2.1])
      rw [HBL.out.2.2.1, ← HG.out] at hsc
      have HSC : Hid (_) := torn_form ((hdrL x y ++ layF (evF y k A L Cp)).take C) x y k G hsc
      have HYC : Hid (Bytes w3 (some ⟨g2, 0, none⟩) ((hdrL x y ++ layF (evF y k A L Cp)).take C) ∧ ((hdrL x y ++ layF (evF y k A L Cp)).take C).length = C) := ⟨HB3.out.2.1.take C, by rw [List.length_take, HBL.out.1]; omega⟩
      have hCc2 : (C : Int) ≤ (c2 : Int) := by omega
      clear hsc hGD
      go_wp2_with (first
        | (go_at_call 17; refine (scan14_any ((hdrL x y ++ layF (evF y k A L Cp)).take C) C (some ⟨g2, 0, none⟩) c2 w3 HYC.out.2 HYC.out.1 (by omega) (by omega) (HP.out.2.2.1.keep HB3.out.1)).mono ?_; rintro r w4 ⟨hs4, hb4⟩; obtain ⟨a4, a5, c4, c5, k5, rfl⟩ := HSC.out _ _ _ hs4; have HB4 : Hid (Below w.heap.size w w4) := below_next HB3.out.1 hb4; clear hs4 hb4)
        | fail)
      go_ret
      exact ⟨rfl, HB4.out.alloc HB4.out.size _⟩
end Go.Proofs.YtaegmeilhdbnnaaDoor.segmentTorn
