/- Own texts, joined: Tleo. -/
import Derived.Test.YtbdgiecnhgiogaaK27
import Derived.Deep.AppendLies
import Derived.Deep.RegionHeld3
namespace Go.Proofs.Ytbdgiecnhgiogaa
open Go.ChangeShapes Go.WideShapes Go.ChangeAt Go.RowKit
set_option linter.unusedVariables false
theorem enc_shape {u : Nat} (hu : u ≤ 18446744073709551615) {w : World} {base : Nat} {v : Value} (h : Own w base v (enc u)) : ∃ g cap, v = .slice (some ⟨g, 0, none⟩) (enc u).length cap ∧ Bytes w (some ⟨g, 0, none⟩) (enc u) := by
  obtain ⟨a, cap, rfl, _, _, hby, hsh⟩ := h.shape
  have hl := enc_length_le u hu
  rcases hsh with ⟨_, h0, _⟩ | ⟨g, rfl, _, _⟩
  · rw [h0] at hl; simp at hl
  · exact ⟨g, cap, rfl, hby⟩
set_option maxRecDepth 20000 in
set_option maxHeartbeats 1000000 in
theorem rone_num (T num L : Nat) (a : Option Addr) (cap : Nat) (w : World) (hT : T ≤ 31) (hnum : num ≤ 18446744073709551615) :
    Calls Try.prog 32 #[FV (T : Int) false num (.slice a L cap)] w fun r w' => ∃ v, r = .returned v ∧ Own w' w.heap.size v (enc (2 * T) ++ enc num) ∧ Below w.heap.size w w' := by
  obtain ⟨i0, hi, hz0, hz1, hz2⟩ := info_parts Try.info5r
  have hTI : (T : Int) ≤ 31 := by omega
  have hw1 : IntKind.i64.wrap (2 * (T : Int)) = 2 * (T : Int) := by rw [wrap_i64]; omega
  have hw2 : IntKind.u64.wrap (2 * (T : Int)) = 2 * (T : Int) := by rw [IntKind.wrap_u64]; omega
  have hl1 := enc_length_le (2 * T) (by omega)
  have hl2 := enc_length_le num hnum
  obtain ⟨W, hW⟩ : ∃ W, w.alloc (.cells #[.int .i64 (T : Int), .bool false, .int .u64 (num : Int), .slice a L cap] 32) = W := ⟨_, rfl⟩
  have HF : Hid (FldAt W w.heap.size T false num (.slice a L cap) ∧ Below w.heap.size w W ∧ w.heap.size < W.heap.size) := by rw [← hW]; exact ⟨FldAt.new _ _ _ _ _, (Below.refl _ _).alloc (Nat.le_refl _) _, by simp⟩
  have HW : Hid (_ = W) := hW
  have HBY : Hid (∀ i, (enc (2 * T) ++ enc num).getD i 0 < 256) := by
    intro i
    rw [List.getD_eq_getElem?_getD]
    by_cases hi : i < (enc (2 * T) ++ enc num).length
    · rw [List.getElem?_eq_getElem hi]
      rcases List.mem_append.1 (List.getElem_mem hi) with h | h
      · exact enc_lt 9 (2 * T) (lt_pow10 _ (by omega)) _ h
      · exact enc_lt 9 num (lt_pow10 _ hnum) _ h
    · rw [List.getElem?_eq_none (by omega)]; simp
  have T1 : Hid True := trivial
  clear hW
  go_enter Try.func32, Try.ntmps32
  go_wp2
  rw [HW.out]
  obtain ⟨c0, _, c2, _⟩ := HF.out.1.cells
  go_region_held3 (fun w' => w'.cell? ⟨w.heap.size, 0, none⟩ = some (.int .i64 (T : Int)) ∧ w'.cell? ⟨w.heap.size, 2, none⟩ = some (.int .u64 (num : Int))) (go_keep) (first
    | (go_at_call 44; clear T1; refine (rencode_at _ (2 * T) (by omega) _ (by omega)).mono ?_; rintro r w1 ⟨v1, rfl, ho1, hb1⟩; have hf1 : FldAt w1 w.heap.size T false num (.slice a L cap) := (show FldAt W.drew w.heap.size T false num (.slice a L cap) from HF.out.1).keep hb1; obtain ⟨d0, _, d2, _⟩ := hf1.cells; have HB1 : Hid (Below W.heap.size W.drew w1) := hb1; have HO1 : Hid (Own w1 W.heap.size v1 (enc (2 * T))) := ho1; have HF1 : Hid (FldAt w1 w.heap.size T false num (.slice a L cap)) := hf1; clear hb1 ho1 hf1)
    | (go_at_call 44; refine (rencode_at _ num rfl _ hnum).mono ?_; rintro r w2 ⟨v2, rfl, ho2, hb2⟩; obtain ⟨g2, cap2, rfl, hby2⟩ := enc_shape hnum ho2; have hf2 := HF1.out.keep hb2; obtain ⟨x0, _, x2, _⟩ := hf2.cells; have HF2 : Hid (FldAt w2 w.heap.size T false num (.slice a L cap)) := hf2; have HO2 : Hid (Own w2 W.heap.size v1 (enc (2 * T))) := own_app HO1.out hb2; have HB2 : Hid (Below W.heap.size W.drew w2) := HB1.out.trans (hb2.mono HB1.out.size); have HY2 : Hid (Bytes w2 (some ⟨g2, 0, none⟩) (enc num)) := hby2; have hs2 : W.heap.size ≤ w2.heap.size := HB2.out.size; clear hf2 ho2 hb2 hby2)
    | ((refine step_append_lies _ (by rfl) _ _ 27 (by rfl) W.heap.size 5 i0 (.int .u8 0) 1 1 Try.underlying27 hi hz0 hz1 hz2 rfl (by decide) v1 (enc (2 * T)).length (B8 (enc (2 * T))) (by rfl) HO2.out.2 ⟨g2, 0, none⟩ (enc num).length cap2 (B8 (enc num)) (by rfl) (B8_length _) (bytes_cells HY2.out) (B8_one _) (by omega) (by unfold maxLen; omega) (by omega) hs2 w2.heap.size rfl ?_; intro g3 cap3 w3 hown3 hgrow3 hat3 hlt3; have hf3 : FldAt w3 w.heap.size T false num (.slice a L cap) := HF2.out.grown HO2.out.2 hgrow3; obtain ⟨y0, _, y2, _⟩ := hf3.cells; have HB3 : Hid (Below W.heap.size W.drew w3) := HB2.out.grown hgrow3 hs2 (fun k hk => (HO2.out.2.lt k hk).1); have HO3 : Hid (w3.ownsRow W.heap.size 5 1 (.slice (some ⟨g3, 0, none⟩) ((enc (2 * T)).length + (enc num).length) cap3) ((enc (2 * T)).length + (enc num).length) (B8 (enc (2 * T)) ++ B8 (enc num))) := hown3; clear hf3 hown3 hgrow3 hat3)))
  go_wp2
  go_ret
  have hB : Below w.heap.size w w3 := HF.out.2.1.trans ((((Below.refl W.heap.size W).drew).trans HB3.out).mono (Nat.le_of_lt HF.out.2.2))
  refine ⟨_, rfl, ⟨HBY.out, ?_⟩, hB⟩
  rw [List.length_append, B8_append]
  exact World.ownsRow.mono (base' := w.heap.size) HO3.out (Nat.le_of_lt HF.out.2.2)
set_option maxRecDepth 20000 in
set_option maxHeartbeats 1000000 in
theorem rone_text (T num : Nat) (l : List Nat) (b off cap : Nat) (w : World) (hT : T ≤ 31) (hl0 : 0 < l.length) (hl200 : l.length ≤ 200) (hby : Bytes w (some ⟨b, off, none⟩) l) :
    Calls Try.prog 32 #[FV (T : Int) true num (.slice (some ⟨b, off, none⟩) l.length cap)] w fun r w' => ∃ v, r = .returned v ∧ Own w' w.heap.size v (enc (2 * T + 1) ++ (enc l.length ++ l)) ∧ Below w.heap.size w w' := by
  obtain ⟨i0, hi, hz0, hz1, hz2⟩ := info_parts Try.info5r
  obtain ⟨L, hL⟩ : ∃ L, l.length = L := ⟨_, rfl⟩
  have HL : Hid (l.length = L) := hL
  rw [hL] at hl0 hl200 ⊢
  have HYL : Hid (Bytes w (some ⟨b, off, none⟩) l) := hby
  have hTI : (T : Int) ≤ 31 := by omega
  have hLI : (L : Int) ≤ 200 := by omega
  have hL0 : (0 : Int) ≤ (L : Int) := by omega
  have hw5 : IntKind.u64.wrap (L : Int) = (L : Int) := by rw [IntKind.wrap_u64]; omega
  clear hL hby
  have hw1 : IntKind.i64.wrap (2 * (T : Int)) = 2 * (T : Int) := by rw [wrap_i64]; omega
  have hw2 : IntKind.i64.wrap (2 * (T : Int) + 1) = 2 * (T : Int) + 1 := by rw [wrap_i64]; omega
  have hw3 : IntKind.u64.wrap (2 * (T : Int) + 1) = 2 * (T : Int) + 1 := by rw [IntKind.wrap_u64]; omega
  have hl1 := enc_length_le (2 * T + 1) (by omega)
  have hl2 := enc_length_le L (by omega)
  obtain ⟨W, hW⟩ : ∃ W, w.alloc (.cells #[.int .i64 (T : Int), .bool true, .int .u64 (num : Int), .slice (some ⟨b, off, none⟩) L cap] 32) = W := ⟨_, rfl⟩
  have HF : Hid (FldAt W w.heap.size T true num (.slice (some ⟨b, off, none⟩) L cap) ∧ Below w.heap.size w W ∧ w.heap.size < W.heap.size) := by rw [← hW]; exact ⟨FldAt.new _ _ _ _ _, (Below.refl _ _).alloc (Nat.le_refl _) _, by simp⟩
  have HW : Hid (_ = W) := hW
  have HBY : Hid (∀ i, (enc (2 * T + 1) ++ (enc L ++ l)).getD i 0 < 256) := by
    intro i
    rw [List.getD_eq_getElem?_getD]
    by_cases hi : i < (enc (2 * T + 1) ++ (enc L ++ l)).length
    · rw [List.getElem?_eq_getElem hi]
      rcases List.mem_append.1 (List.getElem_mem hi) with h | h
      · exact enc_lt 9 (2 * T + 1) (lt_pow10 _ (by omega)) _ h
      · rcases List.mem_append.1 h with h | h
        · exact enc_lt 9 L (lt_pow10 _ (by omega)) _ h
        · exact HYL.out.mem _ h
    · rw [List.getElem?_eq_none (by omega)]; simp
  have T1 : Hid True := trivial
  clear hW
  go_enter Try.func32, Try.ntmps32
  go_wp2
  rw [HW.out]
  obtain ⟨c0, _, _, c3⟩ := HF.out.1.cells
  go_region_held3 (fun w' => w'.cell? ⟨w.heap.size, 0, none⟩ = some (.int .i64 (T : Int)) ∧ w'.cell? ⟨w.heap.size, 3, none⟩ = some (.slice (some ⟨b, off, none⟩) L cap)) (go_keep) (first
    | (go_at_call 44; clear T1; refine (rencode_at _ (2 * T + 1) (by omega) _ (by omega)).mono ?_; rintro r w1 ⟨v1, rfl, ho1, hb1⟩; have hf1 : FldAt w1 w.heap.size T true num (.slice (some ⟨b, off, none⟩) L cap) := (show FldAt W.drew w.heap.size T true num (.slice (some ⟨b, off, none⟩) L cap) from HF.out.1).keep hb1; obtain ⟨d0, _, _, d2⟩ := hf1.cells; have HB1 : Hid (Below W.heap.size W.drew w1) := hb1; have HO1 : Hid (Own w1 W.heap.size v1 (enc (2 * T + 1))) := ho1; have HF1 : Hid (FldAt w1 w.heap.size T true num (.slice (some ⟨b, off, none⟩) L cap)) := hf1; clear hb1 ho1 hf1)
    | (go_at_call 44; refine (rencode_at _ L (by omega) _ (by omega)).mono ?_; rintro r w2 ⟨v2, rfl, ho2, hb2⟩; obtain ⟨g2, cap2, rfl, hby2⟩ := enc_shape (by omega) ho2; have hf2 := HF1.out.keep hb2; obtain ⟨x0, _, _, x2⟩ := hf2.cells; have HF2 : Hid (FldAt w2 w.heap.size T true num (.slice (some ⟨b, off, none⟩) L cap)) := hf2; have HO2 : Hid (Own w2 W.heap.size v1 (enc (2 * T + 1))) := own_app HO1.out hb2; have HB2 : Hid (Below W.heap.size W.drew w2) := HB1.out.trans (hb2.mono HB1.out.size); have HY2 : Hid (Bytes w2 (some ⟨g2, 0, none⟩) (enc L)) := hby2; have hs2 : W.heap.size ≤ w2.heap.size := HB2.out.size; clear hf2 ho2 hb2 hby2)
    | ((refine step_append_lies _ (by rfl) _ _ 27 (by rfl) W.heap.size 5 i0 (.int .u8 0) 1 1 Try.underlying27 hi hz0 hz1 hz2 rfl (by decide) v1 (enc (2 * T + 1)).length (B8 (enc (2 * T + 1))) (by rfl) HO2.out.2 ⟨g2, 0, none⟩ (enc L).length cap2 (B8 (enc L)) (by rfl) (B8_length _) (bytes_cells HY2.out) (B8_one _) (by omega) (by unfold maxLen; omega) (by omega) hs2 w2.heap.size rfl ?_; intro g3 cap3 w3 hown3 hgrow3 hat3 hlt3; have hf3 : FldAt w3 w.heap.size T true num (.slice (some ⟨b, off, none⟩) L cap) := HF2.out.grown HO2.out.2 hgrow3; obtain ⟨y0, _, _, y2⟩ := hf3.cells; have HB3 : Hid (Below W.heap.size W.drew w3) := HB2.out.grown hgrow3 hs2 (fun k hk => (HO2.out.2.lt k hk).1); have HO3 : Hid (w3.ownsRow W.heap.size 5 1 (.slice (some ⟨g3, 0, none⟩) ((enc (2 * T + 1)).length + (enc L).length) cap3) ((enc (2 * T + 1)).length + (enc L).length) (B8 (enc (2 * T + 1)) ++ B8 (enc L))) := hown3; clear hf3 hown3 hgrow3 hat3)))
  have hB : Below w.heap.size w w3 := HF.out.2.1.trans ((((Below.refl W.heap.size W).drew).trans HB3.out).mono (Nat.le_of_lt HF.out.2.2))
  have HBB : Hid (Below w.heap.size w w3) := hB
  have HY3 : Hid (Bytes w3 (some ⟨b, off, none⟩) l) := HYL.out.keep hB
  have hs3 : W.heap.size ≤ w3.heap.size := HB3.out.size
  clear hB
  go_wp2_with (at_builtin; refine wpList_append_own _ rfl _ _ 27 rfl W.heap.size 5 i0 (.int .u8 0) 1 1 Try.underlying27 hi hz0 hz1 hz2 rfl (by decide) _ _ _ rfl HO3.out ⟨b, off, none⟩ _ _ (B8 l) rfl (by rw [B8_length, HL.out]) (bytes_cells HY3.out) (B8_one _) (by unfold maxLen; omega) (by omega) hs3 ?_; intro v5 w5 ho5 hg5 _; have HB5 : Hid (Below w.heap.size w w5) := HBB.out.grown hg5 (Nat.le_trans (Nat.le_of_lt HF.out.2.2) hs3) (fun k hk => Nat.le_trans (Nat.le_of_lt HF.out.2.2) (HO3.out.lt k hk).1); have HO5 : Hid (w5.ownsRow W.heap.size 5 1 v5 ((enc (2 * T + 1)).length + (enc L).length + L) (B8 (enc (2 * T + 1)) ++ B8 (enc L) ++ B8 l)) := ho5; clear ho5 hg5)
  go_ret
  refine ⟨_, rfl, ⟨HBY.out, ?_⟩, HB5.out⟩
  rw [List.length_append, List.length_append, HL.out, B8_append, B8_append, ← Nat.add_assoc, ← List.append_assoc]
  exact World.ownsRow.mono (base' := w.heap.size) HO5.out (Nat.le_of_lt HF.out.2.2)
end Go.Proofs.Ytbdgiecnhgiogaa
