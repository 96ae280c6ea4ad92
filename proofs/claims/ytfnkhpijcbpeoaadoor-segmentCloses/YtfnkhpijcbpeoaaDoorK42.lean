/- Own texts, joined: Sg12. -/
import Derived.Test.YtfnkhpijcbpeoaaDoorK39
import Derived.Test.YtfnkhpijcbpeoaaDoorK13
namespace Go.Proofs.YtfnkhpijcbpeoaaDoor
open Go.ChangeShapes Go.WideShapes Go.ChangeAt Go.RowKit
set_option linter.unusedVariables false
theorem plc_ofP {w : World} {base N c : Nat} {a : Option Addr} {xs : List It} (h : OwnP w base (.slice a N c) xs) : PlcA w a xs := by
  obtain ⟨a2, c2, h1, h2⟩ := h.plc
  cases h1
  exact h2
theorem SegAt.sets {w : World} {k : Nat} {x y c : Int} {s : Bool} {t : Int} {mv : Value} {g : Int} (h : SegAt w k x y c s t mv g) (t' : Int) (u : Value) (g' : Int) : SegAt ((((w.setCell ⟨k, 3, none⟩ (.bool true)).setCell ⟨k, 4, none⟩ (.int .i64 t')).setCell ⟨k, 5, none⟩ u).setCell ⟨k, 6, none⟩ (.int .i64 g')) k x y c true t' u g' := by
  have h3 : SegAt (w.setCell ⟨k, 3, none⟩ (.bool true)) k x y c true t mv g := h.set 3 (.bool true)
  have h4 : SegAt ((w.setCell ⟨k, 3, none⟩ (.bool true)).setCell ⟨k, 4, none⟩ (.int .i64 t')) k x y c true t' mv g := h3.set 4 (.int .i64 t')
  have h5 : SegAt (((w.setCell ⟨k, 3, none⟩ (.bool true)).setCell ⟨k, 4, none⟩ (.int .i64 t')).setCell ⟨k, 5, none⟩ u) k x y c true t' u g := h4.set 5 u
  exact h5.set 6 (.int .i64 g')
theorem sets_one (w : World) (k : Nat) (u3 u4 u5 u6 : Value) : ∀ i, i ≠ k → ((((w.setCell ⟨k, 3, none⟩ u3).setCell ⟨k, 4, none⟩ u4).setCell ⟨k, 5, none⟩ u5).setCell ⟨k, 6, none⟩ u6).heap[i]? = w.heap[i]? := fun i hi =>
  (set_one _ k 6 u6 i hi).trans ((set_one _ k 5 u5 i hi).trans ((set_one _ k 4 u4 i hi).trans (set_one w k 3 u3 i hi)))
theorem seg_sets {w : World} {k k2 : Nat} {x y c : Int} {s : Bool} {t : Int} {mv : Value} {g : Int} (h : SegAt w k x y c s t mv g) (hk : k ≠ k2) (u3 u4 u5 u6 : Value) : SegAt ((((w.setCell ⟨k2, 3, none⟩ u3).setCell ⟨k2, 4, none⟩ u4).setCell ⟨k2, 5, none⟩ u5).setCell ⟨k2, 6, none⟩ u6) k x y c s t mv g := (sets_one w k2 u3 u4 u5 u6 k hk).trans h
theorem below_sets {base k : Nat} {w w1 : World} (h : Below base w w1) (hk : base ≤ k) (u3 u4 u5 u6 : Value) : Below base w ((((w1.setCell ⟨k, 3, none⟩ u3).setCell ⟨k, 4, none⟩ u4).setCell ⟨k, 5, none⟩ u5).setCell ⟨k, 6, none⟩ u6) := (((h.setCell (p := ⟨k, 3, none⟩) hk _).setCell (p := ⟨k, 4, none⟩) hk _).setCell (p := ⟨k, 5, none⟩) hk _).setCell (p := ⟨k, 6, none⟩) hk _
set_option maxRecDepth 20000 in
set_option maxHeartbeats 4000000 in
theorem scan14_any (l : List Nat) (m : Nat) (a : Option Addr) (cap : Nat) (w : World) (hm : l.length = m) (hb : Bytes w a l) (hcap : m ≤ cap) (hl : m ≤ 16777216) (ht : Tab w) :
    Calls Tryd.prog 11 #[.slice a m cap] w fun e w' => ScanP l w.heap.size e w' ∧ Below w.heap.size w w' := by
  have HB : Hid (Bytes w a l ∧ l.length = m ∧ Tab w) := ⟨hb, hm, ht⟩
  have hmem := hb.mem
  have HW0 : Hid (Below w.heap.size w (w.alloc (.cells (SgA 0 0 0 false 0 (.slice none 0 0) 0) 40)) ∧ True) := ⟨(Below.refl _ _).alloc (Nat.le_refl _) _, trivial⟩
  clear hb hm ht
  cases hh : hdr l with
  | none =>
    have HHO : Hid (HoV l = .tuple #[.int .i64 0, .int .i64 0, .int .i64 0, .int .i64 71]) := ho_none hh
    have HN : Hid (hdr l = none) := hh
    clear hh
    go_enter Tryd.func11, Tryd.ntmps11
    go_wp2_with (first
      | (go_at_call 23; refine (headerOf_any l m a cap _ HB.out.2.1 (HB.out.1.keep HW0.out.1) (by omega) hcap (HB.out.2.2.keep HW0.out.1)).mono ?_; rw [HHO.out]; rintro r w1 ⟨rfl, hb1⟩; have HB1 : Hid (Below w.heap.size w w1 ∧ SegAt w1 w.heap.size 0 0 0 false 0 (.slice none 0 0) 0) := ⟨HW0.out.1.trans (hb1.mono (by simp)), (SegAt.new w 0 0 0 false 0 (.slice none 0 0) 0).keep hb1⟩; have hs1 : w.heap.size < w1.heap.size := (by have h := hb1.size; simp at h; omega); clear hb1)
      | ((with_reducible refine frm_store 40 ?_); refine wpList_store_seg rfl _ _ rfl rfl HB1.out.2 rfl rfl rfl ?_; intro w9 hs9 ho9 hh9 hz9; have HB9 : Hid (Below w.heap.size w w9 ∧ SegAt w9 w.heap.size 0 0 0 false 0 (.slice none 0 0) 0) := ⟨below_one HB1.out.1 ho9 hh9 hz9 (Nat.le_refl _), hs9⟩; clear hs9 ho9 hh9 hz9)
      | fail)
    (try simp only [Exit.inBlock, Exit.then])
    refine bodyPost_ret (results_seg3 rfl _ _ w.heap.size rfl HB9.out.2) rfl ⟨.inl ⟨HN.out, rfl⟩, HB9.out.1⟩
  | some q =>
    obtain ⟨X, Y⟩ := q
    obtain ⟨h0, hK, hS, hX1, hX2, hY1, hY2, hbd, hpn⟩ := hdr_some l hmem X Y hh
    have hoX' : hoX l = X := by unfold hoX; rw [hh]; rfl
    have hoY' : hoY l = Y := by unfold hoY; rw [hh]; rfl
    obtain ⟨H, hH⟩ : ∃ H, pn l + 20 = H := ⟨_, rfl⟩
    have HHO : Hid (HoV l = .tuple #[.int .i64 (X : Int), .int .i64 (Y : Int), .int .i64 (H : Int), .int .i64 0]) := by rw [← hH]; exact ho_some hh
    have hHm : H ≤ m := by have := HB.out.2.1; omega
    obtain ⟨EV, hEV⟩ : ∃ E, sgE l = E := ⟨_, rfl⟩
    obtain ⟨G, hG⟩ : ∃ G, sgG l = G := ⟨_, rfl⟩
    obtain ⟨n, hn⟩ : ∃ n, EV.length = n := ⟨_, rfl⟩
    obtain ⟨F, hF⟩ : ∃ F, sgF l = F := ⟨_, rfl⟩
    obtain ⟨N, hN⟩ : ∃ N, sgN l = N := ⟨_, rfl⟩
    obtain ⟨M, hM⟩ : ∃ M, bldL (F : Int) (EV.map evP) = M := ⟨_, rfl⟩
    have hEV2 : runL l H (Y : Int) 512 = EV := by rw [← hEV]; unfold sgE; rw [hoY', hH]
    have hG2 : endZ H EV = G := by rw [← hG]; unfold sgG; rw [hH, hEV]
    have hF2 : ftS (l.drop G) X Y EV = F := by rw [← hF]; unfold sgF; rw [hG, hoX', hoY', hEV]
    have hN2 : ftN (l.drop G) X Y EV = N := by rw [← hN]; unfold sgN; rw [hG, hoX', hoY', hEV]
    obtain ⟨hok, _⟩ := runL_ok l H Y hY1 (by rw [HB.out.2.1]; exact hHm) (by rw [HB.out.2.1]; exact hl)
    obtain ⟨hg1, hg2⟩ := runEnd l H Y (by rw [HB.out.2.1]; exact hHm)
    rw [hEV2] at hok hg1 hg2
    rw [hG2] at hg1 hg2
    rw [HB.out.2.1] at hg2
    have HEO : Hid (EvOk Y EV) := hok
    have hn5 : n ≤ 512 := by rw [← hn]; exact hok.len
    have hGm : G ≤ m := hg2
    have HEV : Hid (runL l H (Y : Int) 512 = EV ∧ endZ H EV = G ∧ EV.length = n ∧ (EV.map evP).length = n ∧ bldL (F : Int) (EV.map evP) = M) := ⟨hEV2, hG2, hn, by rw [List.length_map]; exact hn, hM⟩
    have HFN : Hid (ftS (l.drop G) X Y EV = F ∧ ftN (l.drop G) X Y EV = N) := ⟨hF2, hN2⟩
    have HSG : Hid ((hdr l).isSome = true ∧ sgE l = EV ∧ hoX l = X ∧ hoY l = Y ∧ sgF l = F ∧ sgG l = G ∧ sgN l = N) := ⟨by rw [hh]; rfl, hEV, hoX', hoY', hF, hG, hN⟩
    have hF64 : F ≤ 64 := by rw [← hF2]; exact ftS_le _ _ _ _
    have hNle : N ≤ 16404 := by
      rw [← hN2]
      unfold ftN
      split
      · omega
      · rename_i hc
        have h00 := ftS_pos (l.drop G) X Y EV (by omega)
        have := (decB_facts (fun z hz => hmem z (List.mem_of_mem_drop hz)) h00).2
        omega
    have hXI : (X : Int) ≤ 999999 := by omega
    have hYI : (Y : Int) ≤ 1099511627777 := by omega
    have hHI : (H : Int) ≤ (m : Int) := by omega
    have hGI : (G : Int) ≤ 16777216 := by omega
    have hNI : (N : Int) ≤ 16404 := by omega
    have hFI : (F : Int) ≤ 64 := by omega
    have hn5I : (n : Int) ≤ 512 := by omega
    clear hh h0 hK hS hbd hpn hoX' hoY' hEV hG hn hF hN hM hEV2 hG2 hF2 hN2 hok hg1 hg2 hH
    by_cases hF0 : F = 0
    · subst hF0
      have HM0 : Hid (sgM l = []) := by show _ = _; unfold sgM; rw [HSG.out.2.2.2.2.1, if_pos rfl]
      have HN0 : Hid (N = 0) := by show _ = _; rw [← HFN.out.2]; unfold ftN; rw [HFN.out.1, if_pos rfl]
      go_enter Tryd.func11, Tryd.ntmps11
      go_wp2_with (first
        | (go_at_call 23; refine (headerOf_any l m a cap _ HB.out.2.1 (HB.out.1.keep HW0.out.1) (by omega) hcap (HB.out.2.2.keep HW0.out.1)).mono ?_; rw [HHO.out]; rintro r w1 ⟨rfl, hb1⟩; have HB1 : Hid (Below w.heap.size w w1 ∧ SegAt w1 w.heap.size 0 0 0 false 0 (.slice none 0 0) 0) := ⟨HW0.out.1.trans (hb1.mono (by simp)), (SegAt.new w 0 0 0 false 0 (.slice none 0 0) 0).keep hb1⟩; have hs1 : w.heap.size < w1.heap.size := (by have h := hb1.size; simp at h; omega); clear hb1)
        | (go_at_call 24; refine (run_any l m a cap H (Y : Int) 512 w1 HB.out.2.1 (HB.out.1.keep HB1.out.1) hcap (by omega) hHm (by omega) (by omega) (HB.out.2.2.keep HB1.out.1)).mono ?_; rw [HEV.out.1, HEV.out.2.1]; rintro r w2 ⟨xs, v, rfl, hx, hr, hy, hb2⟩; have hxl : xs.length = n := (by have h := congrArg List.length hx; rw [List.length_map, HEV.out.2.2.1] at h; exact h); obtain ⟨a2, c2, hv2⟩ := row_shape hr; rw [hxl] at hr hv2; subst hv2; have hop : OwnP w2 w1.heap.size (.slice a2 n c2) xs := ⟨by rw [hxl]; exact hr, hy⟩; have HX : Hid (xs.map It.fm = EV ∧ xs.length = n ∧ OwnP w2 w.heap.size (.slice a2 n c2) xs ∧ PlcA w2 a2 xs) := ⟨hx, hxl, hop.mono (Nat.le_of_lt hs1), plc_ofP hop⟩; have HB2 : Hid (Below w.heap.size w w2 ∧ SegAt w2 w.heap.size 0 0 0 false 0 (.slice none 0 0) 0) := ⟨below_next HB1.out.1 hb2, HB1.out.2.keep hb2⟩; have hs2 : w.heap.size < w2.heap.size := Nat.lt_of_lt_of_le hs1 hb2.size; have HW3 : Hid (Below w.heap.size w (w2.alloc (.cells (SgA (X : Int) (Y : Int) (n : Int) false 0 (.slice none 0 0) (G : Int)) 40)) ∧ Below w2.heap.size w2 (w2.alloc (.cells (SgA (X : Int) (Y : Int) (n : Int) false 0 (.slice none 0 0) (G : Int)) 40))) := ⟨HB2.out.1.alloc HB2.out.1.size _, (Below.refl _ _).alloc (Nat.le_refl _) _⟩; clear hx hr hy hb2 hxl hop)
        | ((with_reducible refine at_slice ?_); refine wpList_slice_l rfl _ _ rfl rfl rfl hGm hcap HB.out.2.1 (HB.out.1.keep HW3.out.1) ?_; intro xa hxa; have HXA : Hid (Bytes _ xa (l.drop G)) := hxa; clear hxa)
        | (go_at_call 25; refine (sealedBy_any (l.drop G) X Y EV xs (m - G) n xa a2 (cap - G) c2 _ (by rw [List.length_drop, HB.out.2.1]) HXA.out (by omega) (by omega) HX.out.1 HX.out.2.1 (HX.out.2.2.2.keep HW3.out.2) HEO.out hY2 hX2 (HB.out.2.2.keep HW3.out.1)).mono ?_; rw [HFN.out.1, HFN.out.2]; rintro r w4 ⟨rfl, hb4⟩; have HB4 : Hid (Below w.heap.size w w4 ∧ Below w2.heap.size w2 w4 ∧ SegAt w4 w.heap.size 0 0 0 false 0 (.slice none 0 0) 0 ∧ SegAt w4 w2.heap.size (X : Int) (Y : Int) (n : Int) false 0 (.slice none 0 0) (G : Int)) := (by have h24 := HW3.out.2.trans (hb4.mono (by simp)); exact ⟨below_next HB2.out.1 h24, h24, HB2.out.2.keep h24, (SegAt.new w2 (X : Int) (Y : Int) (n : Int) false 0 (.slice none 0 0) (G : Int)).keep hb4⟩); clear hb4)
        | ((with_reducible refine frm_load 40 ?_); refine wpList_load_seg rfl _ rfl HB4.out.2.2.2 rfl ?_)
        | ((with_reducible refine frm_store 40 ?_); refine wpList_store_seg rfl _ _ rfl rfl HB4.out.2.2.1 rfl rfl rfl ?_; intro w9 hs9 ho9 hh9 hz9; have HB9 : Hid (Below w.heap.size w w9 ∧ SegAt w9 w.heap.size (X : Int) (Y : Int) (n : Int) false 0 (.slice none 0 0) (G : Int) ∧ OwnP w9 w.heap.size (.slice a2 n c2) xs) := ⟨below_one HB4.out.1 ho9 hh9 hz9 (Nat.le_refl _), hs9, ownP_one (HX.out.2.2.1.below HB4.out.2.1) HB4.out.2.2.1 hh9⟩; clear hs9 ho9 hh9 hz9)
        | fail)
      (try simp only [Exit.inBlock, Exit.then])
      refine bodyPost_ret (results_seg3 rfl _ _ w.heap.size rfl HB9.out.2.1) rfl ⟨.inr ⟨HSG.out.1, xs, .slice a2 n c2, .slice none 0 0, by rw [HX.out.1, HSG.out.2.1], ?_, HB9.out.2.2, by rw [HM0.out]; exact OwnM.nil _ _⟩, HB9.out.1⟩
      rw [HSG.out.2.1, HSG.out.2.2.1, HSG.out.2.2.2.1, HSG.out.2.2.2.2.1, HSG.out.2.2.2.2.2.1, HSG.out.2.2.2.2.2.2, HN0.out, HEV.out.2.2.1]
      simp
    · have HM0 : Hid (sgM l = M) := by show _ = _; unfold sgM; rw [HSG.out.2.2.2.2.1, if_neg hF0, HSG.out.2.1, HEV.out.2.2.2.2]
      have hFp : (0 : Int) < (F : Int) := by omega
      have HD : Hid (decide (0 < F) = true) := decide_eq_true (by omega)
      go_enter Tryd.func11, Tryd.ntmps11
      go_wp2_with (first
        | (go_at_call 23; refine (headerOf_any l m a cap _ HB.out.2.1 (HB.out.1.keep HW0.out.1) (by omega) hcap (HB.out.2.2.keep HW0.out.1)).mono ?_; rw [HHO.out]; rintro r w1 ⟨rfl, hb1⟩; have HB1 : Hid (Below w.heap.size w w1 ∧ SegAt w1 w.heap.size 0 0 0 false 0 (.slice none 0 0) 0) := ⟨HW0.out.1.trans (hb1.mono (by simp)), (SegAt.new w 0 0 0 false 0 (.slice none 0 0) 0).keep hb1⟩; have hs1 : w.heap.size < w1.heap.size := (by have h := hb1.size; simp at h; omega); clear hb1)
        | (go_at_call 24; refine (run_any l m a cap H (Y : Int) 512 w1 HB.out.2.1 (HB.out.1.keep HB1.out.1) hcap (by omega) hHm (by omega) (by omega) (HB.out.2.2.keep HB1.out.1)).mono ?_; rw [HEV.out.1, HEV.out.2.1]; rintro r w2 ⟨xs, v, rfl, hx, hr, hy, hb2⟩; have hxl : xs.length = n := (by have h := congrArg List.length hx; rw [List.length_map, HEV.out.2.2.1] at h; exact h); obtain ⟨a2, c2, hv2⟩ := row_shape hr; rw [hxl] at hr hv2; subst hv2; have hop : OwnP w2 w1.heap.size (.slice a2 n c2) xs := ⟨by rw [hxl]; exact hr, hy⟩; have HX : Hid (xs.map It.fm = EV ∧ xs.length = n ∧ OwnP w2 w.heap.size (.slice a2 n c2) xs ∧ PlcA w2 a2 xs) := ⟨hx, hxl, hop.mono (Nat.le_of_lt hs1), plc_ofP hop⟩; have HB2 : Hid (Below w.heap.size w w2 ∧ SegAt w2 w.heap.size 0 0 0 false 0 (.slice none 0 0) 0) := ⟨below_next HB1.out.1 hb2, HB1.out.2.keep hb2⟩; have hs2 : w.heap.size < w2.heap.size := Nat.lt_of_lt_of_le hs1 hb2.size; have HW3 : Hid (Below w.heap.size w (w2.alloc (.cells (SgA (X : Int) (Y : Int) (n : Int) false 0 (.slice none 0 0) (G : Int)) 40)) ∧ Below w2.heap.size w2 (w2.alloc (.cells (SgA (X : Int) (Y : Int) (n : Int) false 0 (.slice none 0 0) (G : Int)) 40))) := ⟨HB2.out.1.alloc HB2.out.1.size _, (Below.refl _ _).alloc (Nat.le_refl _) _⟩; clear hx hr hy hb2 hxl hop)
        | ((with_reducible refine at_slice ?_); refine wpList_slice_l rfl _ _ rfl rfl rfl hGm hcap HB.out.2.1 (HB.out.1.keep HW3.out.1) ?_; intro xa hxa; have HXA : Hid (Bytes _ xa (l.drop G)) := hxa; clear hxa)
        | (go_at_call 25; refine (sealedBy_any (l.drop G) X Y EV xs (m - G) n xa a2 (cap - G) c2 _ (by rw [List.length_drop, HB.out.2.1]) HXA.out (by omega) (by omega) HX.out.1 HX.out.2.1 (HX.out.2.2.2.keep HW3.out.2) HEO.out hY2 hX2 (HB.out.2.2.keep HW3.out.1)).mono ?_; rw [HFN.out.1, HFN.out.2]; rintro r w4 ⟨rfl, hb4⟩; have HB4 : Hid (Below w.heap.size w w4 ∧ Below w2.heap.size w2 w4 ∧ SegAt w4 w.heap.size 0 0 0 false 0 (.slice none 0 0) 0 ∧ SegAt w4 w2.heap.size (X : Int) (Y : Int) (n : Int) false 0 (.slice none 0 0) (G : Int)) := (by have h24 := HW3.out.2.trans (hb4.mono (by simp)); exact ⟨below_next HB2.out.1 h24, h24, HB2.out.2.keep h24, (SegAt.new w2 (X : Int) (Y : Int) (n : Int) false 0 (.slice none 0 0) (G : Int)).keep hb4⟩); clear hb4)
        | (go_at_call 26; refine (build_any (EV.map evP) (pflt xs) n a2 c2 (F : Int) w4 HEV.out.2.2.2.1 (by have h := plAt_of (HX.out.2.2.2.keep HB4.out.2.1); rw [HX.out.1] at h; exact h) (by omega) (by omega) (by omega)).mono ?_; rw [HEV.out.2.2.2.2]; rintro r w5 ⟨v5, rfl, ho5, hb5⟩; obtain ⟨a5, c5, hv5, _⟩ := ho5.shape; subst hv5; have HB5 : Hid (Below w.heap.size w w5 ∧ SegAt w5 w.heap.size 0 0 0 false 0 (.slice none 0 0) 0 ∧ SegAt w5 w2.heap.size (X : Int) (Y : Int) (n : Int) false 0 (.slice none 0 0) (G : Int) ∧ OwnP w5 w.heap.size (.slice a2 n c2) xs ∧ OwnM w5 w.heap.size (.slice a5 M.length c5) M) := ⟨below_next HB4.out.1 hb5, HB4.out.2.2.1.keep hb5, HB4.out.2.2.2.keep hb5, (HX.out.2.2.1.below HB4.out.2.1).below hb5, World.ownsRow.mono (base' := w.heap.size) ho5 HB4.out.1.size⟩; have q3 : w5.cell? ⟨w2.heap.size, 3, none⟩ = some (.bool false) := (HB5.out.2.2.1.at 3).1; have q4 : w5.cell? ⟨w2.heap.size, 4, none⟩ = some (.int .i64 0) := (HB5.out.2.2.1.at 4).1; have q5 : w5.cell? ⟨w2.heap.size, 5, none⟩ = some (.slice none 0 0) := (HB5.out.2.2.1.at 5).1; have q6 : w5.cell? ⟨w2.heap.size, 6, none⟩ = some (.int .i64 (G : Int)) := (HB5.out.2.2.1.at 6).1; have z3 := (HB5.out.2.2.1.at 3).2; have z4 := (HB5.out.2.2.1.at 4).2; have z5 := (HB5.out.2.2.1.at 5).2; have z6 := (HB5.out.2.2.1.at 6).2; clear ho5 hb5)
        | ((with_reducible refine frm_load 40 ?_); refine wpList_load_seg rfl _ rfl (HB5.out.2.2.1.sets _ _ _) rfl ?_)
        | ((with_reducible refine frm_store 40 ?_); refine wpList_store_seg rfl _ _ rfl rfl (seg_sets HB5.out.2.1 (Nat.ne_of_lt hs2) _ _ _ _) rfl rfl rfl ?_; intro w9 hs9 ho9 hh9 hz9; have HB9 : Hid (Below w.heap.size w w9 ∧ SegAt w9 w.heap.size (X : Int) (Y : Int) (n : Int) true (F : Int) (.slice a5 M.length c5) ((G : Int) + (N : Int)) ∧ OwnP w9 w.heap.size (.slice a2 n c2) xs ∧ OwnM w9 w.heap.size (.slice a5 M.length c5) M) := ⟨below_one (below_sets HB5.out.1 (Nat.le_of_lt hs2) _ _ _ _) ho9 hh9 hz9 (Nat.le_refl _), hs9, ownP_one (ownP_one HB5.out.2.2.2.1 HB5.out.2.2.1 (sets_one _ _ _ _ _ _)) (seg_sets HB5.out.2.1 (Nat.ne_of_lt hs2) _ _ _ _) hh9, row_one (row_one HB5.out.2.2.2.2 HB5.out.2.2.1 (by decide) (sets_one _ _ _ _ _ _)) (seg_sets HB5.out.2.1 (Nat.ne_of_lt hs2) _ _ _ _) (by decide) hh9⟩; clear hs9 ho9 hh9 hz9)
        | fail)
      (try simp only [Exit.inBlock, Exit.then])
      refine bodyPost_ret (results_seg3 rfl _ _ w.heap.size rfl HB9.out.2.1) rfl ⟨.inr ⟨HSG.out.1, xs, .slice a2 n c2, .slice a5 M.length c5, by rw [HX.out.1, HSG.out.2.1], ?_, HB9.out.2.2.1, by rw [HM0.out]; exact HB9.out.2.2.2⟩, HB9.out.1⟩
      rw [HSG.out.2.1, HSG.out.2.2.1, HSG.out.2.2.2.1, HSG.out.2.2.2.2.1, HSG.out.2.2.2.2.2.1, HSG.out.2.2.2.2.2.2, HEV.out.2.2.1, HD.out]
      rfl
end Go.Proofs.YtfnkhpijcbpeoaaDoor
