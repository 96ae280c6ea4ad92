/- Own texts, joined: Rv4, Tleo, Tler, Tlz, Tles, Rf4. -/
import Derived.Test.YtfdaefhamoeaiaaGreatK29
import Derived.Test.YtfdaefhamoeaiaaGreatK30
import Derived.Test.YtfdaefhamoeaiaaGreatK31
import Derived.Test.YtfdaefhamoeaiaaGreatK32
import Derived.Test.YtfdaefhamoeaiaaGreatK33
import Derived.Test.YtfdaefhamoeaiaaGreatK34
import Derived.Test.YtfdaefhamoeaiaaGreatK35
import Derived.Test.YtfdaefhamoeaiaaGreatK36
import Derived.Test.YtfdaefhamoeaiaaGreatK37
import Derived.Test.YtfdaefhamoeaiaaGreatK38
import Derived.Test.YtfdaefhamoeaiaaGreatK50
import Derived.Deep.AppendLies
import Derived.Deep.RegionHeld3
import Derived.Test.YtfdaefhamoeaiaaGreatK39
import Derived.Test.YtfdaefhamoeaiaaGreatK41
import Derived.Test.YtfdaefhamoeaiaaGreatK42
import Derived.Test.YtfdaefhamoeaiaaGreatK43
namespace Go.Proofs.YtfdaefhamoeaiaaGreat
open Go.ChangeShapes Go.WideShapes Go.ChangeAt Go.RowKit
theorem rvalid_any (s : St) (a : Option Addr) (n cap : Nat) (w : World) (hn : s.lines.length = n) (hl : Lns w a s.lines) (hm : n ≤ maxLen) :
    Calls Tryz.prog 15 #[.agg (stA s (.slice a n cap))] w fun e w' => e = .returned (.bool (vldB s)) ∧ Below w.heap.size w w' := by
  by_cases h1 : NumOk s
  · by_cases h2 : chk 4 (whoE s.who) = 0
    · cases h3 : linesB s.lines with
      | false =>
        rw [vldB_no (fun h => by rw [h3] at h; exact absurd h.2.1 (by decide))]
        exact rvalid_lines s a n cap w hn hl hm h1 h2 h3
      | true =>
        by_cases h4 : 0 ≤ s.refunded ∧ s.refunded ≤ s.paid ∧ 0 ≤ s.paid ∧ s.paid ≤ dueS s
        · have hv : vldB s = (priorB s && fitsB s) := by
            have a1 : bndS s = true := (bndS_iff s).2 ⟨h1, h2⟩
            have a2 : wit 0 s.paid (dueS s) = true := by simp only [wit_true]; exact ⟨h4.2.2.1, h4.2.2.2⟩
            have a3 : wit 0 s.refunded s.paid = true := by simp only [wit_true]; exact ⟨h4.1, h4.2.1⟩
            unfold vldB
            rw [a1, h3, a2, a3]
            simp only [Bool.true_and]
          rw [hv]
          by_cases hst : s.status = 2
          · by_cases hp1 : s.prior = 1
            · by_cases hp : 0 < s.paid
              · cases hq : (s.paid == dueS s) with
                | false => exact rvalid_restA0 s a n cap w hn hl hm h1 h2 h3 h4 hst hp1 hp hq
                | true => exact rvalid_restA1 s a n cap w hn hl hm h1 h2 h3 h4 hst hp1 hp hq
              · exact rvalid_restA2 s a n cap w hn hl hm h1 h2 h3 h4 hst hp1 hp
            · by_cases hp3 : s.prior = 3
              · by_cases hp : 0 < s.paid
                · cases hq : (s.paid == dueS s) with
                  | false => exact rvalid_restB0 s a n cap w hn hl hm h1 h2 h3 h4 hst hp1 hp3 hp hq
                  | true => exact rvalid_restB1 s a n cap w hn hl hm h1 h2 h3 h4 hst hp1 hp3 hp hq
                · exact rvalid_restB2 s a n cap w hn hl hm h1 h2 h3 h4 hst hp1 hp3 hp
              · exact rvalid_restD s a n cap w hn hl hm h1 h2 h3 h4 hst hp1 hp3
          · by_cases hp0 : s.prior = 0
            · by_cases hp : 0 < s.paid
              · cases hq : (s.paid == dueS s) with
                | false => exact rvalid_restC0 s a n cap w hn hl hm h1 h2 h3 h4 hst hp0 hp hq
                | true => exact rvalid_restC1 s a n cap w hn hl hm h1 h2 h3 h4 hst hp0 hp hq
              · exact rvalid_restC2 s a n cap w hn hl hm h1 h2 h3 h4 hst hp0 hp
            · exact rvalid_restE s a n cap w hn hl hm h1 h2 h3 h4 hst hp0
        · rw [vldB_no (fun h => h4 (by
            have b1 := h.2.2.2.1
            have b2 := h.2.2.2.2.1
            simp only [wit_true] at b1 b2
            exact ⟨b2.1, b2.2, b1.1, b1.2⟩))]
          exact rvalid_money s a n cap w hn hl hm h1 h2 h3 h4
    · rw [vldB_no (fun h => h2 ((bndS_iff s).1 h.1).2)]
      exact rvalid_who s a n cap w hn hl hm h1 h2
  · rw [vldB_no (fun h => h1 ((bndS_iff s).1 h.1).1)]
    exact rvalid_num s a n cap w hn hl hm h1
end Go.Proofs.YtfdaefhamoeaiaaGreat
namespace Go.Proofs.YtfdaefhamoeaiaaGreat
open Go.ChangeShapes Go.WideShapes Go.ChangeAt Go.RowKit
set_option linter.unusedVariables false
theorem enc_shape {u : Nat} (hu : u ≤ 18446744073709551615) {w : World} {base : Nat} {v : Value} (h : Own w base v (enc u)) : ∃ g cap, v = .slice (some ⟨g, 0, none⟩) (enc u).length cap ∧ Bytes w (some ⟨g, 0, none⟩) (enc u) := by
  obtain ⟨a, cap, rfl, _, _, hby, hsh⟩ := h.shape
  have hl := enc_length_le u hu
  rcases hsh with ⟨_, h0, _⟩ | ⟨g, rfl, _, _⟩
  · rw [h0] at hl; simp at hl
  · exact ⟨g, cap, rfl, hby⟩
set_option maxRecDepth 20000 in
set_option maxHeartbeats 1000000 in
theorem rone_num (T num L : Nat) (a : Option Addr) (cap : Nat) (w : World) (hT : T ≤ 31) (hnum : num ≤ 18446744073709551615) :
    Calls Tryz.prog 39 #[FV (T : Int) false num (.slice a L cap)] w fun r w' => ∃ v, r = .returned v ∧ Own w' w.heap.size v (enc (2 * T) ++ enc num) ∧ Below w.heap.size w w' := by
  obtain ⟨i0, hi, hz0, hz1, hz2⟩ := info_parts Tryz.info5r
  have hTI : (T : Int) ≤ 31 := by omega
  have hw1 : IntKind.i64.wrap (2 * (T : Int)) = 2 * (T : Int) := by rw [wrap_i64]; omega
  have hw2 : IntKind.u64.wrap (2 * (T : Int)) = 2 * (T : Int) := by rw [IntKind.wrap_u64]; omega
  have hl1 := enc_length_le (2 * T) (by omega)
  have hl2 := enc_length_le num hnum
  obtain ⟨W, hW⟩ : ∃ W, w.alloc (.cells #[.int .i64 (T : Int), .bool false, .int .u64 (num : Int), .slice a L cap] 60) = W := ⟨_, rfl⟩
  have HF : Hid (FldAt W w.heap.size T false num (.slice a L cap) ∧ Below w.heap.size w W ∧ w.heap.size < W.heap.size) := by rw [← hW]; exact ⟨FldAt.new _ _ _ _ _, (Below.refl _ _).alloc (Nat.le_refl _) _, by simp⟩
  have HW : Hid (_ = W) := hW
  have HBY : Hid (∀ i, (enc (2 * T) ++ enc num).getD i 0 < 256) := by
    intro i
    rw [List.getD_eq_getElem?_getD]
    by_cases hi : i < (enc (2 * T) ++ enc num).length
    · rw [List.getElem?_eq_getElem hi]
      rcases List.mem_append.1 (List.getElem_mem hi) with h | h
      · exact enc_lt 9 (2 * T) (lt_pow10 _ (by omega)) _ h
      · exact enc_lt 9 num (lt_pow10 _ hnum) _ h
    · rw [List.getElem?_eq_none (by omega)]; simp
  have T1 : Hid True := trivial
  clear hW
  go_enter Tryz.func39, Tryz.ntmps39
  go_wp2
  rw [HW.out]
  obtain ⟨c0, _, c2, _⟩ := HF.out.1.cells
  go_region_held3 (fun w' => w'.cell? ⟨w.heap.size, 0, none⟩ = some (.int .i64 (T : Int)) ∧ w'.cell? ⟨w.heap.size, 2, none⟩ = some (.int .u64 (num : Int))) (go_keep) (first
    | (go_at_call 62; clear T1; refine (rencode_at _ (2 * T) (by omega) _ (by omega)).mono ?_; rintro r w1 ⟨v1, rfl, ho1, hb1⟩; have hf1 : FldAt w1 w.heap.size T false num (.slice a L cap) := (show FldAt W.drew w.heap.size T false num (.slice a L cap) from HF.out.1).keep hb1; obtain ⟨d0, _, d2, _⟩ := hf1.cells; have HB1 : Hid (Below W.heap.size W.drew w1) := hb1; have HO1 : Hid (Own w1 W.heap.size v1 (enc (2 * T))) := ho1; have HF1 : Hid (FldAt w1 w.heap.size T false num (.slice a L cap)) := hf1; clear hb1 ho1 hf1)
    | (go_at_call 62; refine (rencode_at _ num rfl _ hnum).mono ?_; rintro r w2 ⟨v2, rfl, ho2, hb2⟩; obtain ⟨g2, cap2, rfl, hby2⟩ := enc_shape hnum ho2; have hf2 := HF1.out.keep hb2; obtain ⟨x0, _, x2, _⟩ := hf2.cells; have HF2 : Hid (FldAt w2 w.heap.size T false num (.slice a L cap)) := hf2; have HO2 : Hid (Own w2 W.heap.size v1 (enc (2 * T))) := own_app HO1.out hb2; have HB2 : Hid (Below W.heap.size W.drew w2) := HB1.out.trans (hb2.mono HB1.out.size); have HY2 : Hid (Bytes w2 (some ⟨g2, 0, none⟩) (enc num)) := hby2; have hs2 : W.heap.size ≤ w2.heap.size := HB2.out.size; clear hf2 ho2 hb2 hby2)
    | ((refine step_append_lies _ (by rfl) _ _ 28 (by rfl) W.heap.size 5 i0 (.int .u8 0) 1 1 Tryz.underlying28 hi hz0 hz1 hz2 rfl (by decide) v1 (enc (2 * T)).length (B8 (enc (2 * T))) (by rfl) HO2.out.2 ⟨g2, 0, none⟩ (enc num).length cap2 (B8 (enc num)) (by rfl) (B8_length _) (bytes_cells HY2.out) (B8_one _) (by omega) (by unfold maxLen; omega) (by omega) hs2 w2.heap.size rfl ?_; intro g3 cap3 w3 hown3 hgrow3 hat3 hlt3; have hf3 : FldAt w3 w.heap.size T false num (.slice a L cap) := HF2.out.grown HO2.out.2 hgrow3; obtain ⟨y0, _, y2, _⟩ := hf3.cells; have HB3 : Hid (Below W.heap.size W.drew w3) := HB2.out.grown hgrow3 hs2 (fun k hk => (HO2.out.2.lt k hk).1); have HO3 : Hid (w3.ownsRow W.heap.size 5 1 (.slice (some ⟨g3, 0, none⟩) ((enc (2 * T)).length + (enc num).length) cap3) ((enc (2 * T)).length + (enc num).length) (B8 (enc (2 * T)) ++ B8 (enc num))) := hown3; clear hf3 hown3 hgrow3 hat3)))
  go_wp2
  go_ret
  have hB : Below w.heap.size w w3 := HF.out.2.1.trans ((((Below.refl W.heap.size W).drew).trans HB3.out).mono (Nat.le_of_lt HF.out.2.2))
  refine ⟨_, rfl, ⟨HBY.out, ?_⟩, hB⟩
  rw [List.length_append, B8_append]
  exact World.ownsRow.mono (base' := w.heap.size) HO3.out (Nat.le_of_lt HF.out.2.2)
set_option maxRecDepth 20000 in
set_option maxHeartbeats 1000000 in
theorem rone_text (T num : Nat) (l : List Nat) (b off cap : Nat) (w : World) (hT : T ≤ 31) (hl0 : 0 < l.length) (hl200 : l.length ≤ 200) (hby : Bytes w (some ⟨b, off, none⟩) l) :
    Calls Tryz.prog 39 #[FV (T : Int) true num (.slice (some ⟨b, off, none⟩) l.length cap)] w fun r w' => ∃ v, r = .returned v ∧ Own w' w.heap.size v (enc (2 * T + 1) ++ (enc l.length ++ l)) ∧ Below w.heap.size w w' := by
  obtain ⟨i0, hi, hz0, hz1, hz2⟩ := info_parts Tryz.info5r
  obtain ⟨L, hL⟩ : ∃ L, l.length = L := ⟨_, rfl⟩
  have HL : Hid (l.length = L) := hL
  rw [hL] at hl0 hl200 ⊢
  have HYL : Hid (Bytes w (some ⟨b, off, none⟩) l) := hby
  have hTI : (T : Int) ≤ 31 := by omega
  have hLI : (L : Int) ≤ 200 := by omega
  have hL0 : (0 : Int) ≤ (L : Int) := by omega
  have hw5 : IntKind.u64.wrap (L : Int) = (L : Int) := by rw [IntKind.wrap_u64]; omega
  clear hL hby
  have hw1 : IntKind.i64.wrap (2 * (T : Int)) = 2 * (T : Int) := by rw [wrap_i64]; omega
  have hw2 : IntKind.i64.wrap (2 * (T : Int) + 1) = 2 * (T : Int) + 1 := by rw [wrap_i64]; omega
  have hw3 : IntKind.u64.wrap (2 * (T : Int) + 1) = 2 * (T : Int) + 1 := by rw [IntKind.wrap_u64]; omega
  have hl1 := enc_length_le (2 * T + 1) (by omega)
  have hl2 := enc_length_le L (by omega)
  obtain ⟨W, hW⟩ : ∃ W, w.alloc (.cells #[.int .i64 (T : Int), .bool true, .int .u64 (num : Int), .slice (some ⟨b, off, none⟩) L cap] 60) = W := ⟨_, rfl⟩
  have HF : Hid (FldAt W w.heap.size T true num (.slice (some ⟨b, off, none⟩) L cap) ∧ Below w.heap.size w W ∧ w.heap.size < W.heap.size) := by rw [← hW]; exact ⟨FldAt.new _ _ _ _ _, (Below.refl _ _).alloc (Nat.le_refl _) _, by simp⟩
  have HW : Hid (_ = W) := hW
  have HBY : Hid (∀ i, (enc (2 * T + 1) ++ (enc L ++ l)).getD i 0 < 256) := by
    intro i
    rw [List.getD_eq_getElem?_getD]
    by_cases hi : i < (enc (2 * T + 1) ++ (enc L ++ l)).length
    · rw [List.getElem?_eq_getElem hi]
      rcases List.mem_append.1 (List.getElem_mem hi) with h | h
      · exact enc_lt 9 (2 * T + 1) (lt_pow10 _ (by omega)) _ h
      · rcases List.mem_append.1 h with h | h
        · exact enc_lt 9 L (lt_pow10 _ (by omega)) _ h
        · exact HYL.out.mem _ h
    · rw [List.getElem?_eq_none (by omega)]; simp
  have T1 : Hid True := trivial
  clear hW
  go_enter Tryz.func39, Tryz.ntmps39
  go_wp2
  rw [HW.out]
  obtain ⟨c0, _, _, c3⟩ := HF.out.1.cells
  go_region_held3 (fun w' => w'.cell? ⟨w.heap.size, 0, none⟩ = some (.int .i64 (T : Int)) ∧ w'.cell? ⟨w.heap.size, 3, none⟩ = some (.slice (some ⟨b, off, none⟩) L cap)) (go_keep) (first
    | (go_at_call 62; clear T1; refine (rencode_at _ (2 * T + 1) (by omega) _ (by omega)).mono ?_; rintro r w1 ⟨v1, rfl, ho1, hb1⟩; have hf1 : FldAt w1 w.heap.size T true num (.slice (some ⟨b, off, none⟩) L cap) := (show FldAt W.drew w.heap.size T true num (.slice (some ⟨b, off, none⟩) L cap) from HF.out.1).keep hb1; obtain ⟨d0, _, _, d2⟩ := hf1.cells; have HB1 : Hid (Below W.heap.size W.drew w1) := hb1; have HO1 : Hid (Own w1 W.heap.size v1 (enc (2 * T + 1))) := ho1; have HF1 : Hid (FldAt w1 w.heap.size T true num (.slice (some ⟨b, off, none⟩) L cap)) := hf1; clear hb1 ho1 hf1)
    | (go_at_call 62; refine (rencode_at _ L (by omega) _ (by omega)).mono ?_; rintro r w2 ⟨v2, rfl, ho2, hb2⟩; obtain ⟨g2, cap2, rfl, hby2⟩ := enc_shape (by omega) ho2; have hf2 := HF1.out.keep hb2; obtain ⟨x0, _, _, x2⟩ := hf2.cells; have HF2 : Hid (FldAt w2 w.heap.size T true num (.slice (some ⟨b, off, none⟩) L cap)) := hf2; have HO2 : Hid (Own w2 W.heap.size v1 (enc (2 * T + 1))) := own_app HO1.out hb2; have HB2 : Hid (Below W.heap.size W.drew w2) := HB1.out.trans (hb2.mono HB1.out.size); have HY2 : Hid (Bytes w2 (some ⟨g2, 0, none⟩) (enc L)) := hby2; have hs2 : W.heap.size ≤ w2.heap.size := HB2.out.size; clear hf2 ho2 hb2 hby2)
    | ((refine step_append_lies _ (by rfl) _ _ 28 (by rfl) W.heap.size 5 i0 (.int .u8 0) 1 1 Tryz.underlying28 hi hz0 hz1 hz2 rfl (by decide) v1 (enc (2 * T + 1)).length (B8 (enc (2 * T + 1))) (by rfl) HO2.out.2 ⟨g2, 0, none⟩ (enc L).length cap2 (B8 (enc L)) (by rfl) (B8_length _) (bytes_cells HY2.out) (B8_one _) (by omega) (by unfold maxLen; omega) (by omega) hs2 w2.heap.size rfl ?_; intro g3 cap3 w3 hown3 hgrow3 hat3 hlt3; have hf3 : FldAt w3 w.heap.size T true num (.slice (some ⟨b, off, none⟩) L cap) := HF2.out.grown HO2.out.2 hgrow3; obtain ⟨y0, _, _, y2⟩ := hf3.cells; have HB3 : Hid (Below W.heap.size W.drew w3) := HB2.out.grown hgrow3 hs2 (fun k hk => (HO2.out.2.lt k hk).1); have HO3 : Hid (w3.ownsRow W.heap.size 5 1 (.slice (some ⟨g3, 0, none⟩) ((enc (2 * T + 1)).length + (enc L).length) cap3) ((enc (2 * T + 1)).length + (enc L).length) (B8 (enc (2 * T + 1)) ++ B8 (enc L))) := hown3; clear hf3 hown3 hgrow3 hat3)))
  have hB : Below w.heap.size w w3 := HF.out.2.1.trans ((((Below.refl W.heap.size W).drew).trans HB3.out).mono (Nat.le_of_lt HF.out.2.2))
  have HBB : Hid (Below w.heap.size w w3) := hB
  have HY3 : Hid (Bytes w3 (some ⟨b, off, none⟩) l) := HYL.out.keep hB
  have hs3 : W.heap.size ≤ w3.heap.size := HB3.out.size
  clear hB
  go_wp2_with (at_builtin; refine wpList_append_own _ rfl _ _ 28 rfl W.heap.size 5 i0 (.int .u8 0) 1 1 Tryz.underlying28 hi hz0 hz1 hz2 rfl (by decide) _ _ _ rfl HO3.out ⟨b, off, none⟩ _ _ (B8 l) rfl (by rw [B8_length, HL.out]) (bytes_cells HY3.out) (B8_one _) (by unfold maxLen; omega) (by omega) hs3 ?_; intro v5 w5 ho5 hg5 _; have HB5 : Hid (Below w.heap.size w w5) := HBB.out.grown hg5 (Nat.le_trans (Nat.le_of_lt HF.out.2.2) hs3) (fun k hk => Nat.le_trans (Nat.le_of_lt HF.out.2.2) (HO3.out.lt k hk).1); have HO5 : Hid (w5.ownsRow W.heap.size 5 1 v5 ((enc (2 * T + 1)).length + (enc L).length + L) (B8 (enc (2 * T + 1)) ++ B8 (enc L) ++ B8 l)) := ho5; clear ho5 hg5)
  go_ret
  refine ⟨_, rfl, ⟨HBY.out, ?_⟩, HB5.out⟩
  rw [List.length_append, List.length_append, HL.out, B8_append, B8_append, ← Nat.add_assoc, ← List.append_assoc]
  exact World.ownsRow.mono (base' := w.heap.size) HO5.out (Nat.le_of_lt HF.out.2.2)
end Go.Proofs.YtfdaefhamoeaiaaGreat
namespace Go.Proofs.YtfdaefhamoeaiaaGreat
open Go.ChangeShapes Go.WideShapes Go.ChangeAt Go.RowKit
set_option linter.unusedVariables false
theorem rone_any (F : Fld) (last : Int) (ad : Option Addr) (cap : Nat) (w : World) (hz : flt F last = 0) (hnum : F.num ≤ 18446744073709551615) (hby : Bytes w ad F.bytes) :
    Calls Tryz.prog 39 #[FV F.tag F.text F.num (.slice ad F.bytes.length cap)] w fun r w' => ∃ v, r = .returned v ∧ Own w' w.heap.size v (one F) ∧ Below w.heap.size w w' := by
  obtain ⟨t1, t2, t3⟩ := flt_tag hz
  obtain ⟨T, hT⟩ : ∃ T : Nat, F.tag = T := ⟨F.tag.toNat, by omega⟩
  obtain ⟨tag, text, num, bytes⟩ := F
  simp only at hT hnum hby ⊢
  subst hT
  cases text with
  | false =>
    have e0 : one ⟨(T : Int), false, num, bytes⟩ = enc (2 * T) ++ enc num := by unfold one; rw [if_neg (by simp)]; simp only [Int.toNat_natCast]
    rw [e0]
    exact rone_num T num bytes.length ad cap w (by simp only at t2; omega) hnum
  | true =>
    have e0 : one ⟨(T : Int), true, num, bytes⟩ = enc (2 * T + 1) ++ (enc bytes.length ++ bytes) := by unfold one; rw [if_pos rfl]; simp only [Int.toNat_natCast]
    rw [e0]
    unfold flt at hz
    rw [if_neg (by simp only at t1 t2 ⊢; omega), if_neg (by simp only at t3 ⊢; omega), if_pos rfl] at hz
    have h3 : bytes ≠ [] := fun hc => by rw [if_pos hc] at hz; cases hz
    rw [if_neg h3] at hz
    have h4 : ¬ 200 < bytes.length := fun hc => by rw [if_pos hc] at hz; cases hz
    obtain ⟨b, off, rfl, _, _⟩ := hby.nonempty h3
    exact rone_text T num bytes b off cap w (by simp only at t2; omega) (List.length_pos_iff.2 h3) (by omega) hby
theorem one_ne (F : Fld) (A : Int) (hz : flt F A = 0) (hnum : F.num ≤ 18446744073709551615) : one F ≠ [] := by
  have h := (one_len F A hnum hz).1
  intro h0
  rw [h0] at h
  simp at h
set_option maxRecDepth 20000 in
set_option maxHeartbeats 1000000 in
theorem rtenc_any (L : List (Fld × Value)) (b off n cap : Nat) (w : World) (hn : L.length = n) (hfs : FsAt w (some ⟨b, off, none⟩) L) (hm : n ≤ 140737488355328) :
    Calls Tryz.prog 16 #[.slice (some ⟨b, off, none⟩) n cap] w fun r w' => ∃ v, r = .returned (.tuple #[v, .int .i64 ((encs (L.map Prod.fst) 0 []).2 : Int)]) ∧ Own w' w.heap.size v (encs (L.map Prod.fst) 0 []).1 ∧ Below w.heap.size w w' := by
  obtain ⟨i0, hi, hz0, hz1, hz2⟩ := info_parts Tryz.info5r
  have HF : Hid (FsAt w (some ⟨b, off, none⟩) L) := hfs
  have HN : Hid (L.length = n) := hn
  have hmI : (n : Int) ≤ 140737488355328 := by omega
  have HO0 : Hid ((w.alloc (.cells #[] 5)).ownsRow w.heap.size 5 1 (.slice (some ⟨w.heap.size, 0, none⟩) 0 0) 0 []) := own_empty w _ (Nat.le_refl _)
  clear hfs hn
  go_enter Tryz.func16, Tryz.ntmps16
  go_wp2
  go_loopw [4, 5, 11] (fun va vb vi wr => ∃ (k : Nat) (A : Int) (acc : List Nat), k ≤ n ∧ vi = .int .i64 k ∧ va = .int .i64 A ∧ 0 ≤ A ∧ A ≤ 31 ∧ Hid (encs (L.map Prod.fst) 0 [] = encs ((L.drop k).map Prod.fst) A acc ∧ (acc.length : Int) ≤ 220 * A ∧ Own wr w.heap.size vb acc ∧ Below w.heap.size w wr)) (fun _ _ vi _ => n - (intOf vi).toNat)
  case atStart => exact ⟨0, 0, [], Nat.zero_le _, rfl, rfl, by omega, by omega, rfl, by simp, ⟨by simp, HO0.out⟩, (Below.refl _ _).alloc (Nat.le_refl _) _⟩
  case round =>
    obtain ⟨k, A, acc, hk, rfl, rfl, hA0, hA1, HI⟩ := hrel
    by_cases hkl : k < n
    · obtain ⟨p, hp⟩ : ∃ p, L[k]? = some p := ⟨_, List.getElem?_eq_getElem (by rw [HN.out]; exact hkl)⟩
      have hpm : p ∈ L := List.mem_of_getElem? hp
      obtain ⟨c0, c1, c2, c3⟩ := (HF.out.keep HI.out.2.2.2).cells k p hp
      have HCW : Hid (∀ w', Below w.heap.size w w' → w'.cell? ⟨b, off + k * 4, none⟩ = some (.int .i64 p.1.tag) ∧ w'.cell? ⟨b, off + k * 4 + 1, none⟩ = some (.bool p.1.text) ∧ w'.cell? ⟨b, off + k * 4 + 2, none⟩ = some (.int .u64 (p.1.num : Int)) ∧ w'.cell? ⟨b, off + k * 4 + 3, none⟩ = some p.2) := fun w' hw' => (HF.out.keep hw').cells k p hp
      obtain ⟨ad, pcap, hpv, hpc, _⟩ := (HF.out.fok p hpm).byt
      have HNUM : Hid (p.1.num ≤ 18446744073709551615) := (HF.out.fok p hpm).num
      have HBY : Hid (∀ w', Below w.heap.size w w' → Bytes w' ad p.1.bytes) := by
        intro w' hb'
        obtain ⟨ad2, cap2, h1, _, h3⟩ := ((HF.out.fok p hpm).keep hb').byt
        rw [hpv] at h1
        cases h1
        exact h3
      have HST : Hid (encs (L.map Prod.fst) 0 [] = if flt p.1 A ≠ 0 then ([], flt p.1 A) else encs ((L.drop (k + 1)).map Prod.fst) p.1.tag (acc ++ one p.1)) := by
        show _ = _
        rw [HI.out.1, drop_fld L k p hp, encs_cons]
      rw [hpv] at c3 HCW
      obtain ⟨F, hFe⟩ : ∃ F, p.1 = F := ⟨_, rfl⟩
      rw [hFe] at c0 c1 c2 c3 HNUM HBY HST HCW
      clear hpv hFe hp hpm
      by_cases hz : flt F A = 0
      · obtain ⟨t1, t2, t3⟩ := flt_tag hz
        have HZ : Hid (flt F A = 0) := hz
        have HST2 : Hid (encs (L.map Prod.fst) 0 [] = encs ((L.drop (k + 1)).map Prod.fst) F.tag (acc ++ one F)) := by show _ = _; rw [HST.out, hz, if_neg (by simp)]
        have hol := (one_len F A HNUM.out hz).2
        have HLEN : Hid (((acc ++ one F).length : Int) ≤ 220 * F.tag) := by
          have h2 := HI.out.2.1
          show ((acc ++ one F).length : Int) ≤ _
          rw [List.length_append]
          omega
        have hacc : acc.length + (one F).length ≤ 7000 := by have h2 := HLEN.out; rw [List.length_append] at h2; omega
        have HONE : Hid (one F ≠ []) := one_ne F A hz HNUM.out
        clear hz HST hol
        go_wp2_with (first
          | (go_at_call 38; refine (rfault_any F A ad pcap _ HNUM.out).mono ?_; rw [HZ.out]; rintro r w2 ⟨rfl, hb2⟩; have HB2 : Hid (Below w.heap.size w w2) := HI.out.2.2.2.trans (hb2.mono HI.out.2.2.2.size); have HO2 : Hid (Own w2 w.heap.size _ acc) := own_app HI.out.2.2.1 hb2; obtain ⟨d0, d1, d2, d3⟩ := HCW.out w2 HB2.out; clear hb2 c0 c1 c2 c3)
          | (go_at_call 39; refine (rone_any F A ad pcap _ HZ.out HNUM.out (HBY.out w2 HB2.out)).mono ?_; rintro r w3 ⟨v3, rfl, ho3, hb3⟩; have HOB : Hid (∀ i, (one F).getD i 0 < 256) := ho3.1; obtain ⟨g3, cp3, hv3, hcp3, hy3⟩ := ho3.row HONE.out; subst hv3; have HB3 : Hid (Below w.heap.size w w3) := HB2.out.trans (hb3.mono HB2.out.size); have HO3 : Hid (Own w3 w.heap.size _ acc) := own_app HO2.out hb3; have HY3 : Hid (Bytes w3 (some ⟨g3, 0, none⟩) (one F)) := hy3; clear ho3 hb3 hy3)
          | (at_builtin; refine wpList_append_own _ rfl _ _ 28 rfl w.heap.size 5 i0 (.int .u8 0) 1 1 Tryz.underlying28 hi hz0 hz1 hz2 rfl (by decide) _ _ _ rfl HO3.out.2 ⟨g3, 0, none⟩ _ _ (B8 (one F)) rfl (B8_length _) (bytes_cells HY3.out) (B8_one _) (by unfold maxLen; omega) (by omega) HB3.out.size ?_; intro v4 w4 ho4 hg4 _; have HB4 : Hid (Below w.heap.size w w4) := grown_row HB3.out HO3.out.2 HB3.out.size hg4; have HO4 : Hid (Own w4 w.heap.size v4 (acc ++ one F)) := Own.append HO3.out.1 HOB.out ho4; clear ho4 hg4))
        go_roundw
        case rel => exact ⟨k + 1, F.tag, acc ++ one F, by omega, by go_num, rfl, by omega, by omega, HST2.out, HLEN.out, HO4.out, HB4.out⟩
        case measure => simp [intOf]; omega
      · obtain ⟨e, he⟩ : ∃ e, flt F A = e := ⟨_, rfl⟩
        have HZ : Hid (flt F A = e) := he
        have heb : ((e : Int) != 0) = true := by rw [he] at hz; simp; omega
        have HST2 : Hid (encs (L.map Prod.fst) 0 [] = ([], e)) := by show _ = _; rw [HST.out, if_pos hz, he]
        clear hz he HST
        go_wp2_with (go_at_call 38; refine (rfault_any F A ad pcap _ HNUM.out).mono ?_; rw [HZ.out]; rintro r w2 ⟨rfl, hb2⟩; have HB2 : Hid (Below w.heap.size w w2) := HI.out.2.2.2.trans (hb2.mono HI.out.2.2.2.size); clear hb2)
        go_ret2
        exact ⟨_, by rw [HST2.out]; rfl, by rw [HST2.out]; exact own_nil _ _, HB2.out⟩
    · obtain rfl : k = n := by omega
      have HE : Hid (encs (L.map Prod.fst) 0 [] = if 1024 < acc.length then ([], 24) else (acc, 0)) := by
        show _ = _
        rw [HI.out.1, List.drop_eq_nil_of_le (by rw [HN.out]; exact Nat.le_refl _)]; rfl
      obtain ⟨xa, xc, rfl, _, _, _, _⟩ := HI.out.2.2.1.shape
      have hacc : (acc.length : Int) ≤ 6820 := by have := HI.out.2.1; omega
      obtain ⟨m, hm2⟩ : ∃ m, acc.length = m := ⟨_, rfl⟩
      have HM : Hid (acc.length = m) := hm2
      rw [hm2] at hacc
      by_cases hb : 1024 < m
      · have HE2 : Hid (encs (L.map Prod.fst) 0 [] = ([], 24)) := by show _ = _; rw [HE.out, if_pos (by rw [hm2]; exact hb)]
        have hbI : (1024 : Int) < (m : Int) := by omega
        clear HE
        go_wp2
        go_ret2
        exact ⟨_, by rw [HE2.out]; rfl, by rw [HE2.out]; exact own_nil _ _, HI.out.2.2.2⟩
      · have HE2 : Hid (encs (L.map Prod.fst) 0 [] = (acc, 0)) := by show _ = _; rw [HE.out, if_neg (by rw [hm2]; exact hb)]
        have hbI : ¬ (1024 : Int) < (m : Int) := by omega
        clear HE
        go_wp2
        go_ret2
        exact ⟨_, by rw [HE2.out]; rfl, by rw [HE2.out]; have h := HI.out.2.2.1; rw [hm2] at h; exact h, HI.out.2.2.2⟩
end Go.Proofs.YtfdaefhamoeaiaaGreat
namespace Go.Proofs.YtfdaefhamoeaiaaGreat
open Go.ChangeShapes Go.WideShapes Go.ChangeAt Go.RowKit
set_option linter.unusedVariables false
end Go.Proofs.YtfdaefhamoeaiaaGreat
namespace Go.Proofs.YtfdaefhamoeaiaaGreat
open Go.ChangeShapes Go.WideShapes Go.ChangeAt Go.RowKit
set_option linter.unusedVariables false
set_option maxRecDepth 20000 in
set_option maxHeartbeats 400000 in
theorem rtenc_nil (a : Option Addr) (cap : Nat) (w : World) :
    Calls Tryz.prog 16 #[.slice a 0 cap] w fun r w' => ∃ v, r = .returned (.tuple #[v, .int .i64 0]) ∧ Own w' w.heap.size v [] ∧ Below w.heap.size w w' := by
  have HO0 : Hid ((w.alloc (.cells #[] 5)).ownsRow w.heap.size 5 1 (.slice (some ⟨w.heap.size, 0, none⟩) 0 0) 0 []) := own_empty w _ (Nat.le_refl _)
  go_enter Tryz.func16, Tryz.ntmps16
  go_wp2
  refine wp_loop_rounds 1 ?_
  rw [rounds_succ]
  go_wp2
  go_ret2
  exact ⟨_, rfl, ⟨by simp, HO0.out⟩, (Below.refl _ _).alloc (Nat.le_refl _) _⟩
theorem rtenc (L : List (Fld × Value)) (a : Option Addr) (n cap : Nat) (w : World) (hn : L.length = n) (hfs : FsAt w a L) (hm : n ≤ 140737488355328) :
    Calls Tryz.prog 16 #[.slice a n cap] w fun r w' => ∃ v, r = .returned (.tuple #[v, .int .i64 ((encs (L.map Prod.fst) 0 []).2 : Int)]) ∧ Own w' w.heap.size v (encs (L.map Prod.fst) 0 []).1 ∧ Below w.heap.size w w' := by
  rcases hfs.row with rfl | ⟨b, off, rfl, _, _⟩
  · simp only [List.length_nil] at hn
    subst hn
    exact rtenc_nil a cap w
  · exact rtenc_any L b off n cap w hn hfs hm
theorem encs_small (fs : List Fld) : (encs fs 0 []).1.length ≤ 1024 := by
  obtain ⟨r, e, h⟩ : ∃ r e, encs fs 0 [] = (r, e) := ⟨_, _, rfl⟩
  by_cases he : e = 0
  · subst he; rw [h]; exact (encs_pre _ _ _ _ h).2
  · rw [encs_err fs 0 [] (by rw [h]; exact he)]; simp
end Go.Proofs.YtfdaefhamoeaiaaGreat
namespace Go.Proofs.YtfdaefhamoeaiaaGreat
open Go.ChangeShapes Go.WideShapes Go.ChangeAt Go.RowKit
set_option linter.unusedVariables false
set_option maxRecDepth 20000 in
set_option maxHeartbeats 1000000 in
theorem renc09_any (s : St) (a : Option Addr) (n cap : Nat) (w : World) (hn : s.lines.length = n) (hl : Lns w a s.lines) (hm : n ≤ maxLen) :
    Calls Tryz.prog 7 #[.agg (stA s (.slice a n cap))] w fun r w' => CencPost w s r w' := by
  have HN : Hid (_) := hn
  have HC0 : Hid (StC w w.heap.size s a n cap (w.alloc (.cells (stA s (.slice a n cap)) 25))) := StC.new w s a n cap hl
  by_cases hv : vldB s = true
  · have HV : Hid (vldB s = true) := hv
    have r := vst_of hv
    have HR : Hid (VSt s) := r
    have HE1 : Hid (cenc s = (ones (sfs s), 0)) := if_pos hv
    have HENC : Hid (_) := sfs_encs r
    have HFL : Hid (∀ f ∈ sfs s, f.num ≤ 18446744073709551615 ∧ f.bytes.length ≤ maxLen) := fun f hf => by
      obtain ⟨h1, _, h3⟩ := r.flds f (List.mem_filter.1 hf).1
      exact ⟨h1, by unfold maxLen; omega⟩
    clear hv r hn hl
    go_enter Tryz.func7, Tryz.ntmps7
    go_wp2_with (first
      | ((with_reducible refine guard_load 25 ?_); first | refine wpList_load_st rfl _ rfl HC1.out.1 rfl ?_ | refine wpList_load_st rfl _ rfl HC0.out.1 rfl ?_)
      | (go_at_call 15; refine (rvalid_any s a n cap _ HN.out HC0.out.2.1 hm).mono ?_; rw [HV.out]; rintro _ w1 ⟨rfl, hb1⟩; have HC1 : Hid (StC w w.heap.size s a n cap w1) := StC.keep HC0.out hb1; clear hb1)
      | (go_at_call 17; refine (rfields9_any s a n cap _ HR.out HN.out HC1.out.2.1).mono ?_; rintro _ w2 ⟨vf, L, rfl, hL, hn2, hr, hb2⟩; obtain ⟨fa, fc, hvf, hfs⟩ := hr.fs (fun p hp => HFL.out p.1 (by rw [← hL]; exact List.mem_map_of_mem hp)); subst hvf; have HL : Hid (_) := hL; have HFS : Hid (FsAt w2 fa L) := hfs; have HB2 : Hid (Below w.heap.size w w2) := below_next HC1.out.2.2 hb2; clear hL hr hb2 hfs)
      | (go_at_call 16; refine (rtenc L fa L.length fc _ rfl HFS.out (by omega)).mono ?_; rw [HL.out, HENC.out]; rintro _ w3 ⟨v3, rfl, ho3, hb3⟩; have HO3 : Hid (Own w3 w.heap.size v3 (ones (sfs s))) := ⟨ho3.1, ho3.2.mono HB2.out.size⟩; have HB3 : Hid (Below w.heap.size w w3) := below_next HB2.out hb3; clear ho3 hb3))
    go_ret2
    exact ⟨_, by rw [HE1.out]; rfl, by rw [HE1.out]; exact HO3.out, HB3.out⟩
  · have hf : vldB s = false := by simpa using hv
    have HV : Hid (vldB s = false) := hf
    have HE1 : Hid (cenc s = ([], 40)) := if_neg hv
    clear hv hf hn hl
    go_enter Tryz.func7, Tryz.ntmps7
    go_wp2_with (first
      | ((with_reducible refine guard_load 25 ?_); refine wpList_load_st rfl _ rfl HC0.out.1 rfl ?_)
      | (go_at_call 15; refine (rvalid_any s a n cap _ HN.out HC0.out.2.1 hm).mono ?_; rw [HV.out]; rintro _ w1 ⟨rfl, hb1⟩; have HB1 : Hid (Below w.heap.size w w1) := below_next HC0.out.2.2 hb1; clear hb1))
    go_ret2
    exact ⟨_, by rw [HE1.out]; rfl, by rw [HE1.out]; exact ⟨by simp, World.ownsRow_nil _ _ _ 1⟩, HB1.out⟩
end Go.Proofs.YtfdaefhamoeaiaaGreat
