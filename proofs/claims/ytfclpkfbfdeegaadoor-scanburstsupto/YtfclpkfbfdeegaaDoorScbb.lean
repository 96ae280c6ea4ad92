/- Laid frames of which a later one is turned. -/
import Derived.Test.YtfclpkfbfdeegaaDoorScb1
import Derived.Deep.AppendLies
namespace Go.Proofs.YtfclpkfbfdeegaaDoor.scanBursts
open Go.ChangeShapes Go.WideShapes Go.ChangeAt Go.RowKit
set_option linter.unusedVariables false
set_option maxRecDepth 20000 in
set_option maxHeartbeats 4000000 in
theorem burst_later (L : List Fi) (K k : Nat) (f0 : Fi) (a : Option Addr) (cap : Nat) (at1 : Int) (P : Nat) (w : World) (HL : Hid (FrsA w a L ∧ L.length = K ∧ fbulk L ≤ 1048576)) (HT : Hid (Tab w)) (hok : ∀ f ∈ L, fOk f) (hf0 : L[k]? = some f0) (hP : P < 4294967296) (hk0 : 0 < k) :
    Calls Tryd.prog 5 #[.slice a K cap, .int .i64 (k : Int), .int .i64 at1, .int .u32 (P : Int)] w fun e w' => e = .returned (.bool true) ∧ Below w.heap.size w w' := by
  obtain ⟨i0, hi, hz0, hz1, hz2⟩ := info_parts Tryd.info5f
  have hkK : k < K := by have := get_lt hf0; have := HL.out.2.1; omega
  obtain ⟨hsp, hlen⟩ := lay_split L k f0 hf0
  obtain ⟨F, hF⟩ : ∃ F, (layF (L.take k)).length = F := ⟨_, rfl⟩
  obtain ⟨M, hM⟩ : ∃ M, (fL f0).length = M := ⟨_, rfl⟩
  obtain ⟨E, hE⟩ : ∃ E, (layF (L.take (k + 1))).length = E := ⟨_, rfl⟩
  obtain ⟨D, hD⟩ : ∃ D, (layF L).length = D := ⟨_, rfl⟩
  rw [hE, hF, hM] at hlen
  have hM20 : 20 ≤ M := by rw [← hM]; unfold fL; rw [frameL_length]; omega
  have hD2 : D ≤ 5242880 := by
    have h1 := layF_len L (fun f hf => (HL.out.1.oks f hf).len)
    have h2 := HL.out.2.2
    omega
  have hED : E ≤ D := by rw [← hD, hsp, List.length_append, List.length_append, hF, hM]; omega
  have hR : (layF (L.drop (k + 1))).length = D - E := by
    have h := congrArg List.length hsp
    rw [List.length_append, List.length_append, hF, hM, hD] at h
    omega
  have HD : Hid ((layF L).length = D ∧ (∀ f ∈ L, Fok f.k.toNat f.s.toNat f.body) ∧ ∀ f ∈ L, (f.k.toNat : Int) = f.k ∧ (f.s.toNat : Int) = f.s) := ⟨hD, fun f hf => fok_of (hok f hf) (HL.out.1.oks f hf), fun f hf => by
    obtain ⟨k, s, h1, h2, _⟩ := encE_ok (hok f hf)
    rw [h1, h2]
    exact ⟨by simp, by simp⟩⟩
  have HLS : Hid (layF L = layF (L.take k) ++ (fL f0 ++ layF (L.drop (k + 1))) ∧ (layF (L.take k)).length = F ∧ (fL f0).length = M ∧ E = F + M ∧ (layF (L.drop (k + 1))).length = D - E) := ⟨hsp, hF, hM, hlen, hR⟩
  have HDF : Hid ((layF L).take F = layF (L.take k) ∧ ((layF L).drop F).take M = fL f0 ∧ (layF L).drop E = layF (L.drop (k + 1))) := by
    refine ⟨?_, ?_, ?_⟩
    · rw [hsp, ← hF, List.take_left]
    · rw [hsp, ← hF, List.drop_left, ← hM, List.take_left]
    · rw [hsp, hlen, ← hF, ← hM, ← List.drop_drop, List.drop_left, List.drop_left]
  have HFk : Hid (Fok f0.k.toNat f0.s.toNat f0.body ∧ fL f0 ≠ [] ∧ L.length = K ∧ (L.take k).length = k) := ⟨HD.out.2.1 f0 (List.mem_of_getElem? hf0), fun h => by rw [h] at hM; simp at hM; omega, HL.out.2.1, by rw [List.length_take, HL.out.2.1]; omega⟩
  have HNE : Hid (layF L ≠ []) := fun h => by rw [h] at hD; simp at hD; omega
  have HLD : Hid (∀ w1, Below w.heap.size w w1 → Calls Tryd.prog 11 #[.slice a K cap] w1 fun e w' => ∃ g2 c2 ge ce, e = .returned (.tuple #[.slice (some ⟨g2, 0, none⟩) D c2, .slice (some ⟨ge, 0, none⟩) K ce, .bool true]) ∧ D ≤ c2 ∧ Bytes w' (some ⟨g2, 0, none⟩) (layF L) ∧ ge < w'.heap.size ∧ w'.cell? ⟨ge, k, none⟩ = some (.int .i64 (E : Int)) ∧ (∀ j, k = j + 1 → w'.cell? ⟨ge, j, none⟩ = some (.int .i64 (F : Int))) ∧ Below w1.heap.size w1 w') := fun w1 hb1 =>
    (laidF_any L K a cap w1 HL.out.2.1 (HL.out.1.keep hb1) HL.out.2.2 (HT.out.keep hb1)).mono (by
      rintro e w' ⟨⟨_, vb, ve, rfl, h2, h3⟩ | ⟨h1, _⟩, hb⟩
      · obtain ⟨g2, c2, hv2, hc2, hy2⟩ := h2.row HNE.out
        rw [hD] at hv2 hc2
        obtain ⟨ge, ce, hv, _, hlt⟩ := h3.form (by omega)
        subst hv hv2
        refine ⟨g2, c2, ge, ce, rfl, hc2, hy2, hlt, ?_, ?_, hb⟩
        · rw [h3.cellAt k (by omega)]
          unfold endV
          rw [List.getElem?_map, List.getElem?_range hkK, ← hE]
          rfl
        · intro j hj
          rw [h3.cellAt j (by omega)]
          unfold endV
          rw [List.getElem?_map, List.getElem?_range (by omega), ← hF, hj]
          rfl
      · exact absurd hok h1)
  have hKb : 4 * K ≤ 1048576 := by have := fbulk_len L; have := HL.out.2.1; have := HL.out.2.2; omega
  have hFE : F < E := by omega
  have hMb : M ≤ 5242880 := by omega
  have hkI : (k : Int) < (K : Int) := by omega
  have hKI : (K : Int) ≤ 262144 := by omega
  have hFI : (F : Int) < (E : Int) := by omega
  have hEI : (E : Int) ≤ (D : Int) := by omega
  have hDI : (D : Int) ≤ 5242880 := by omega
  have HP : Hid (P < 4294967296) := hP
  have HFE : Hid (E - F = M) := by show _ = _; omega
  clear hok hD hsp hlen hF hM hE hR hP hf0
  obtain ⟨j, hj⟩ : ∃ j, k = j + 1 := ⟨k - 1, by omega⟩
  have HJ : Hid (k = j + 1) := hj
  have hjK : (j : Int) < (K : Int) := by omega
  have hkj0 : (k : Int) - 1 = (j : Int) := by omega
  have hk1 : (0 : Int) < (k : Int) := by omega
  have hk2 : ¬ (k : Int) < 0 := by omega
  clear hj hk0
  by_cases hneg : at1 < 0
  · go_enter Tryd.func5, Tryd.ntmps5
    go_wp2_with (first
      | (go_at_call 6; refine (head12_any w HT.out).mono ?_; rintro e w1 ⟨rfl, hb1⟩; have HB1 : Hid (Below w.heap.size w w1) := hb1; clear hb1)
      | (go_at_call 11; refine (HLD.out _ HB1.out).mono ?_; rintro e w2 ⟨g2, c2, ge, ce, rfl, hc2, hy2, hge, hck, hkj2, hb2⟩; have HB2 : Hid (Below w.heap.size w w2) := below_next HB1.out hb2; have HY2 : Hid (Bytes w2 (some ⟨g2, 0, none⟩) (layF L)) := hy2; have hDc : (D : Int) ≤ (c2 : Int) := (by omega); have hFc : ¬ c2 = F := (by omega); have hkj : w2.cell? ⟨ge, j, none⟩ = some (.int .i64 (F : Int)) := hkj2 j HJ.out; clear hb2 hy2 hkj2))
    go_ret
    exact ⟨rfl, HB2.out⟩
  by_cases hbig : 8 * ((E : Int) - (F : Int)) ≤ at1
  · go_enter Tryd.func5, Tryd.ntmps5
    go_wp2_with (first
      | (go_at_call 6; refine (head12_any w HT.out).mono ?_; rintro e w1 ⟨rfl, hb1⟩; have HB1 : Hid (Below w.heap.size w w1) := hb1; clear hb1)
      | (go_at_call 11; refine (HLD.out _ HB1.out).mono ?_; rintro e w2 ⟨g2, c2, ge, ce, rfl, hc2, hy2, hge, hck, hkj2, hb2⟩; have HB2 : Hid (Below w.heap.size w w2) := below_next HB1.out hb2; have HY2 : Hid (Bytes w2 (some ⟨g2, 0, none⟩) (layF L)) := hy2; have hDc : (D : Int) ≤ (c2 : Int) := (by omega); have hFc : ¬ c2 = F := (by omega); have hkj : w2.cell? ⟨ge, j, none⟩ = some (.int .i64 (F : Int)) := hkj2 j HJ.out; clear hb2 hy2 hkj2))
    go_ret
    exact ⟨rfl, HB2.out⟩
  obtain ⟨at0, rfl⟩ := Int.eq_ofNat_of_zero_le (show 0 ≤ at1 by omega)
  have HAT : Hid (at0 < 8 * (fL f0).length) := by show _ < _; rw [HLS.out.2.2.1]; have := HFE.out; omega
  go_enter Tryd.func5, Tryd.ntmps5
  go_wp2_with (first
    | (go_at_call 6; refine (head12_any w HT.out).mono ?_; rintro e w1 ⟨rfl, hb1⟩; have HB1 : Hid (Below w.heap.size w w1) := hb1; clear hb1)
    | (go_at_call 11; refine (HLD.out _ HB1.out).mono ?_; rintro e w2 ⟨g2, c2, ge, ce, rfl, hc2, hy2, hge, hck, hkj2, hb2⟩; have HB2 : Hid (Below w.heap.size w w2) := below_next HB1.out hb2; have HY2 : Hid (Bytes w2 (some ⟨g2, 0, none⟩) (layF L)) := hy2; have hDc : (D : Int) ≤ (c2 : Int) := (by omega); have hFc : ¬ c2 = F := (by omega); have hkj : w2.cell? ⟨ge, j, none⟩ = some (.int .i64 (F : Int)) := hkj2 j HJ.out; clear hb2 hy2 hkj2; have HYF : Hid (Bytes w2 (some ⟨g2, F, none⟩) (fL f0)) := (by have h := (HY2.out.drop F).take M; rw [HDF.out.2.1, Nat.zero_add] at h; exact h))
    | (go_at_call 13; (refine (turn_any (fL f0) at0 P _ g2 F _ _ (HLS.out.2.2.1.trans HFE.out.symm) HYF.out HFk.out.2.1 (by rw [HLS.out.2.2.1]; omega) HAT.out HP.out).mono ?_; rintro r w5 ⟨v5, t, rfl, htl, ho5, hval, hb5⟩; obtain ⟨g5, c5, hv5, hc5, hy5⟩ := ho5.row (fun h => by rw [h, HLS.out.2.2.1] at htl; simp at htl; omega); rw [htl, HLS.out.2.2.1] at hv5 hc5; subst hv5; have HTL : Hid (t.length = M ∧ ∀ i, t.getD i 0 < 256) := ⟨htl.trans HLS.out.2.2.1, ho5.1⟩; have hcase := cases_of f0 t at0 P HFk.out.1 hy5.mem htl HP.out HAT.out hval; have HB5 : Hid (Below w2.heap.size w2 w5) := hb5; have HY5 : Hid (Bytes w5 (some ⟨g5, 0, none⟩) t) := hy5; have hck5 : w5.cell? ⟨ge, k, none⟩ = some (.int .i64 (E : Int)) := (hb5.cell (p := ⟨ge, k, none⟩) hge).trans hck; have hge5 : ge < w5.heap.size := Nat.lt_of_lt_of_le hge hb5.size; clear ho5 hb5 hy5 hval htl; rcases hcase with hd | ⟨hd, hz⟩ <;> have HDT : Hid (decide (t = fL f0) = _) := hd <;> clear hd))
    | (go_at_call 14; refine (same_at t (fL f0) _ _ _ _ _ _ _ HTL.out.1 (HLS.out.2.2.1.trans HFE.out.symm) HY5.out (HYF.out.keep HB5.out) (by rw [HTL.out.1]; unfold maxLen; omega) (by rw [HLS.out.2.2.1]; unfold maxLen; omega)).mono ?_; rw [HDT.out]; rintro r w6 ⟨rfl, nq, hq6⟩; have HB6 : Hid (Below w5.heap.size w5 w6) := (by rw [hq6]; exact below_drewN (Below.refl _ _) nq); have hck6 : w6.cell? ⟨ge, k, none⟩ = some (.int .i64 (E : Int)) := (HB6.out.cell (p := ⟨ge, k, none⟩) hge5).trans hck5; have hge6 : ge < w6.heap.size := Nat.lt_of_lt_of_le hge5 HB6.out.size; clear hq6))
  · go_ret
    exact ⟨rfl, below_next HB2.out (HB5.out.trans (HB6.out.mono HB5.out.size))⟩
  · obtain ⟨O, hO⟩ : ∃ O, (if c2 = E then 0 else E) = O := ⟨_, rfl⟩
    have HYO : Hid (Bytes w2 (some ⟨g2, O, none⟩) (layF (L.drop (k + 1)))) := by
      by_cases hcE : c2 = E
      · have h0 : layF (L.drop (k + 1)) = [] := List.length_eq_zero_iff.1 (by rw [HLS.out.2.2.2.2]; omega)
        show Bytes _ _ _
        rw [h0]
        exact Bytes.none _ _
      · have h := HY2.out.drop E
        rw [HDF.out.2.2, Nat.zero_add] at h
        rw [← hO, if_neg hcE]
        exact h
    have hOA : (if c2 = E then (some ⟨g2, 0, none⟩ : Option Addr) else some ⟨g2, E, none⟩) = some ⟨g2, O, none⟩ := by rw [← hO]; split <;> rfl
    clear hO
    have HCP : Hid (∀ w', Below w2.heap.size w2 w' → Calls Tryd.prog 9 #[.slice (some ⟨g2, 0, none⟩) F c2] w' fun e w'' => ∃ a7 c7, e = .returned (.slice a7 F c7) ∧ w''.ownsRow w'.heap.size 5 1 (.slice a7 F c7) F (B8 (layF (L.take k))) ∧ (∀ i, (layF (L.take k)).getD i 0 < 256) ∧ Below w'.heap.size w' w'') := fun w' hw' => by
      have hy := (HY2.out.take F).keep hw'
      rw [HDF.out.1] at hy
      have := copy_any (layF (L.take k)) _ c2 w' hy (by rw [HLS.out.2.1]; omega)
      rw [HLS.out.2.1] at this
      refine this.mono ?_
      rintro e w'' ⟨v, rfl, ho, hb⟩
      obtain ⟨a7, c7, hv, _⟩ := ho.shape
      rw [HLS.out.2.1] at hv
      subst hv
      exact ⟨a7, c7, rfl, by have h := ho.2; rw [HLS.out.2.1] at h; exact h, ho.1, hb⟩
    have HB26 : Hid (Below w2.heap.size w2 w6) := HB5.out.trans (HB6.out.mono HB5.out.size)
    have HYR : Hid (Bytes w6 (some ⟨g2, O, none⟩) (layF (L.drop (k + 1)))) := HYO.out.keep HB26.out
    have hM5 : 0 < M := by omega
    have hF0 : (0 : Int) ≤ (F : Int) := by omega
    have hFc2 : (F : Int) ≤ (c2 : Int) := by omega
    have hE0 : (0 : Int) ≤ (E : Int) := by omega
    have hEc2 : (E : Int) ≤ (c2 : Int) := by omega
    have hs26 : w2.heap.size ≤ w6.heap.size := HB26.out.size
    go_region_held3 (fun w' => w'.cell? ⟨ge, k, none⟩ = some (.int .i64 (E : Int))) (go_keep) (first
      | (go_at_call 9; refine (HCP.out _ ?_).mono ?_; exact below_drewN HB26.out _; rintro e w7 ⟨a7, c7, rfl, ho7, hlt7, hb7⟩; have HB7 : Hid (Below w6.heap.size w6 w7) := (below_drewN (Below.refl w6.heap.size w6) _).trans hb7; have HO7 : Hid (w7.ownsRow w6.heap.size 5 1 (.slice a7 F c7) F (B8 (layF (L.take k))) ∧ ∀ i, (layF (L.take k)).getD i 0 < 256) := ⟨ho7, hlt7⟩; have ck7 : w7.cell? ⟨ge, k, none⟩ = some (.int .i64 (E : Int)) := (hb7.cell (p := ⟨ge, k, none⟩) hge6).trans hck6; have hge7 : ge < w7.heap.size := Nat.lt_of_lt_of_le hge6 HB7.out.size; have hs7 : w6.heap.size ≤ w7.heap.size := HB7.out.size; clear ho7 hb7 hlt7)
      | ((refine step_append_lies _ (by rfl) _ _ 22 (by rfl) w6.heap.size 5 i0 (.int .u8 0) 1 1 Tryd.underlying22 hi hz0 hz1 hz2 rfl (by decide) (.slice a7 F c7) F (B8 (layF (L.take k))) (by rfl) HO7.out.1 ⟨g5, 0, none⟩ M c5 (B8 t) (by rfl) (by rw [B8_length, HTL.out.1, Nat.mul_one]) (bytes_cells ((HY5.out.keep HB6.out).keep HB7.out)) (B8_one _) hM5 (by unfold maxLen; omega) (by omega) hs7 w7.heap.size rfl ?_; intro g8 c8 w8 ho8 hg8 hat8 hlt8; have HO8 : Hid (w8.ownsRow w6.heap.size 5 1 (.slice (some ⟨g8, 0, none⟩) (F + M) c8) (F + M) (B8 (layF (L.take k)) ++ B8 t)) := ho8; have HB8 : Hid (Below w6.heap.size w6 w8) := grown_row HB7.out HO7.out.1 hs7 hg8; have ck8 : w8.cell? ⟨ge, k, none⟩ = some (.int .i64 (E : Int)) := (HB8.out.cell (p := ⟨ge, k, none⟩) hge6).trans hck6; have hs8 : w6.heap.size ≤ w8.heap.size := HB8.out.size; clear ho8 hg8 hat8 hlt8))
      | ((refine step_append_any _ (by rfl) _ _ 22 (by rfl) w6.heap.size i0 Tryd.underlying22 hi hz0 hz1 hz2 (.slice (some ⟨g8, 0, none⟩) (F + M) c8) (F + M) (B8 (layF (L.take k)) ++ B8 t) (by rfl) HO8.out (by omega) (some ⟨g2, O, none⟩) (D - E) _ (layF (L.drop (k + 1))) (by rfl) HLS.out.2.2.2.2 (HYR.out.keep HB8.out) (fun h => by cases h) (by omega) hs8 ?_; intro g9 c9 w9 ho9 hg9; have HO9 : Hid (w9.ownsRow w6.heap.size 5 1 (.slice (some ⟨g9, 0, none⟩) (F + M + (D - E)) c9) (F + M + (D - E)) (B8 (layF (L.take k)) ++ B8 t ++ B8 (layF (L.drop (k + 1))))) := ho9; have HB9 : Hid (Below w6.heap.size w6 w9) := grown_row HB8.out HO8.out hs8 hg9; have ck9 : w9.cell? ⟨ge, k, none⟩ = some (.int .i64 (E : Int)) := (HB9.out.cell (p := ⟨ge, k, none⟩) hge6).trans hck6; clear ho9 hg9)))
    have HYA : Hid (Bytes w9 (some ⟨g9, 0, none⟩) (layF (L.take k) ++ (t ++ layF (L.drop (k + 1)))) ∧ (layF (L.take k) ++ (t ++ layF (L.drop (k + 1)))).length = F + M + (D - E) ∧ F + M + (D - E) ≤ c9) := by
      have hl : (layF (L.take k) ++ (t ++ layF (L.drop (k + 1)))).length = F + M + (D - E) := by rw [List.length_append, List.length_append, HLS.out.2.1, HTL.out.1, HLS.out.2.2.2.2]; omega
      have hmem : ∀ i, (layF (L.take k) ++ (t ++ layF (L.drop (k + 1)))).getD i 0 < 256 := fun i => getD_lt (by
        intro x hx
        rcases List.mem_append.1 hx with h | h
        · exact mem_getD HO7.out.2 x h
        · rcases List.mem_append.1 h with h | h
          · exact HY5.out.mem x h
          · exact HYR.out.mem x h) i
      have ho : Own w9 w6.heap.size (.slice (some ⟨g9, 0, none⟩) (F + M + (D - E)) c9) (layF (L.take k) ++ (t ++ layF (L.drop (k + 1)))) := ⟨hmem, by rw [hl, B8_append, B8_append, ← List.append_assoc]; exact HO9.out⟩
      obtain ⟨a, c, hv, hc, _, hy, _⟩ := ho.shape
      simp only [Value.slice.injEq] at hv
      obtain ⟨rfl, _, rfl⟩ := hv
      exact ⟨hy, hl, by rw [← hl]; exact hc⟩
    have HB29 : Hid (Below w.heap.size w w9) := below_next HB2.out (HB26.out.trans (HB9.out.mono hs26))
    obtain ⟨S1, S2, S3⟩ := scan_turned (L.take k) (fun f hf => HD.out.2.1 f (List.mem_of_mem_take hf)) t (layF (L.drop (k + 1))) hz
    have HSC : Hid (scanL (layF (L.take k) ++ (t ++ layF (L.drop (k + 1)))) = plF 0 (L.take k) ∧ endZ 0 (scanL (layF (L.take k) ++ (t ++ layF (L.drop (k + 1))))) = F ∧ allE (layF (L.take k) ++ (t ++ layF (L.drop (k + 1)))) = decE t) := ⟨S1, by rw [S2]; exact HLS.out.2.1, S3⟩
    clear S1 S2 S3
    rcases hz with hz | hz <;> have HZ : Hid (decE t = _) := hz <;> clear hz
    all_goals (
      go_wp2_with (go_at_call 12; refine (all_any _ (F + M + (D - E)) (some ⟨g9, 0, none⟩) c9 w9 HYA.out.2.1 HYA.out.1 HYA.out.2.2 (by omega) (HT.out.keep HB29.out)).mono ?_; rw [HSC.out.2.1, HSC.out.2.2, HSC.out.1, HZ.out]; rintro e w3 ⟨xs, v, rfl, hx, hr, hy, hb⟩; obtain ⟨a3, c3, rfl⟩ := row_shape hr; have hl : xs.length = k := (by have h := congrArg List.length hx; rw [List.length_map, plF_len, HFk.out.2.2.2] at h; exact h); rw [hl] at hr ⊢; have HX3 : Hid (xs.map It.fm = plF 0 (L.take k) ∧ OwnP w3 w9.heap.size (.slice a3 k c3) xs ∧ xs.length = k ∧ Below w9.heap.size w9 w3) := ⟨hx, OwnP.of (by rw [hl]; exact hr) hy, hl, hb⟩; have HB3 : Hid (Below w.heap.size w w3) := below_next HB29.out hb; clear hx hr hy hb hl)
      have HPX : Hid (PlcA w3 a3 xs) := plc_of2 HX3.out.2.1
      have HFX : Hid (FrsA w3 a L) := HL.out.1.keep HB3.out
      go_loopw [118] (fun vi wq => ∃ i : Nat, i ≤ k ∧ vi = .int .i64 i ∧ Below w3.heap.size w3 wq) (fun vi _ => k - (intOf vi).toNat)
      case atStart => exact ⟨0, Nat.zero_le _, rfl, Below.refl _ _⟩
      case round =>
        rename World => wq
        obtain ⟨i, hik, rfl, hbq⟩ := hrel
        have hsq := hbq.size
        by_cases hlt0 : i < k
        · obtain ⟨⟨fk, fs, body, ad, cp⟩, hf⟩ := lt_get (L := L) (k := i) (by rw [HL.out.2.1]; omega)
          obtain ⟨x, hx⟩ := lt_get (L := xs) (k := i) (by rw [HX3.out.2.2.1]; exact hlt0)
          obtain ⟨q, hq⟩ := plF_get (L.take k) 0 i _ (by rw [List.getElem?_take_of_lt hlt0]; exact hf)
          have hfm : x.fm = ⟨q, fk.toNat, fs.toNat, body⟩ := by
            have h := congrArg (fun M => M[i]?) HX3.out.1
            simp only [List.getElem?_map, hx, hq, Option.map_some, Option.some.injEq] at h
            exact h
          have hfm2 := List.mem_of_getElem? hf
          obtain ⟨kk, ks⟩ := HD.out.2.2 _ hfm2
          have hfo := (HFX.out.keep hbq).oks _ hfm2
          obtain ⟨b, off, rfl, hlt, _, _, c2, c3, c4⟩ := (HPX.out.keep hbq).at i x hx
          obtain ⟨a5, s5, e5, hy5, hm5⟩ := (HPX.out.keep hbq).byt x (List.mem_of_getElem? hx)
          rcases (HFX.out.keep hbq).lie with h0 | ⟨b', off', ha', hlt', hcs⟩
          · rw [h0] at hf; simp at hf
          subst ha'
          obtain ⟨d0, d1, d2⟩ := hcs i _ hf
          rw [hfm] at c2 c3 e5 hy5 hm5
          simp only at c2 c3 e5 hy5 hm5 kk ks d0 d1 d2
          rw [kk] at c2
          rw [ks] at c3
          have hyf := hfo.byt
          simp only at hyf
          rw [e5] at c4
          obtain ⟨m, hm⟩ : ∃ m, body.length = m := ⟨_, rfl⟩
          rw [hm] at c4 d2 hm5
          have HSM : Hid (∀ w', Below wq.heap.size wq w' → Calls Tryd.prog 10 #[FrV fk fs (.slice a5 m s5), FrV fk fs (.slice ad m cp)] w' fun e w'' => e = .returned (.bool true) ∧ Below w'.heap.size w' w'') := fun w' hw' => (fsame_any _ _ _ _ body body m m a5 ad s5 cp w' hm hm (hy5.keep hw') (hyf.keep hw') hm5 hm5 rfl rfl).mono (by rintro e w'' ⟨rfl, h⟩; exact ⟨by simp, h⟩)
          have hlI : (i : Int) < (k : Int) := by omega
          have hiK : (i : Int) < (K : Int) := by omega
          clear hf hx hq hfm hfm2 kk ks hfo hyf hy5 hm5 hcs hm e5
          go_wp2
          go_region_held3 (fun w' => w'.cell? ⟨b, off + i * 5 + 2, none⟩ = some (.int .i64 fk) ∧ w'.cell? ⟨b, off + i * 5 + 3, none⟩ = some (.int .i64 fs) ∧ w'.cell? ⟨b, off + i * 5 + 4, none⟩ = some (.slice a5 m s5) ∧ w'.cell? ⟨b', off' + i * 3, none⟩ = some (.int .i64 fk) ∧ w'.cell? ⟨b', off' + i * 3 + 1, none⟩ = some (.int .i64 fs) ∧ w'.cell? ⟨b', off' + i * 3 + 2, none⟩ = some (.slice ad m cp)) (go_keep) (first
            | (go_at_call 10; refine (HSM.out _ (below_drewN (Below.refl _ _) 1)).mono ?_; rintro e w4 ⟨rfl, hb4⟩; have zc2 : w4.cell? ⟨b, off + i * 5 + 2, none⟩ = some (.int .i64 fk) := (hb4.cell (p := ⟨b, off + i * 5 + 2, none⟩) hlt).trans c2; have zc3 : w4.cell? ⟨b, off + i * 5 + 3, none⟩ = some (.int .i64 fs) := (hb4.cell (p := ⟨b, off + i * 5 + 3, none⟩) hlt).trans c3; have zc4 : w4.cell? ⟨b, off + i * 5 + 4, none⟩ = some (.slice a5 m s5) := (hb4.cell (p := ⟨b, off + i * 5 + 4, none⟩) hlt).trans c4; have zd0 : w4.cell? ⟨b', off' + i * 3, none⟩ = some (.int .i64 fk) := (hb4.cell (p := ⟨b', off' + i * 3, none⟩) hlt').trans d0; have zd1 : w4.cell? ⟨b', off' + i * 3 + 1, none⟩ = some (.int .i64 fs) := (hb4.cell (p := ⟨b', off' + i * 3 + 1, none⟩) hlt').trans d1; have zd2 : w4.cell? ⟨b', off' + i * 3 + 2, none⟩ = some (.slice ad m cp) := (hb4.cell (p := ⟨b', off' + i * 3 + 2, none⟩) hlt').trans d2; have HB4 : Hid (Below wq.heap.size wq w4) := (below_drewN (Below.refl wq.heap.size wq) _).trans hb4; clear hb4)
            | fail)
          all_goals go_wp2
          all_goals exact ⟨⟨i + 1, by omega, by go_num, hbq.trans (HB4.out.mono hsq)⟩, by simp [intOf]; omega⟩
        · go_wp2
          go_ret
          exact ⟨rfl, below_next HB3.out hbq⟩)
end Go.Proofs.YtfclpkfbfdeegaaDoor.scanBursts
