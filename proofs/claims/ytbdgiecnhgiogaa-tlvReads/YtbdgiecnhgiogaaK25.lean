/- Own texts, joined: Tleo, Tler. -/
import Derived.Test.YtbdgiecnhgiogaaK24
import Derived.Deep.AppendLies
import Derived.Deep.RegionHeld3
import Derived.Test.YtbdgiecnhgiogaaK04
namespace Go.Proofs.Ytbdgiecnhgiogaa
open Go.ChangeShapes Go.WideShapes Go.ChangeAt Go.RowKit
set_option linter.unusedVariables false
theorem enc_shape {u : Nat} (hu : u ≤ 18446744073709551615) {w : World} {base : Nat} {v : Value} (h : Own w base v (enc u)) : ∃ g cap, v = .slice (some ⟨g, 0, none⟩) (enc u).length cap ∧ Bytes w (some ⟨g, 0, none⟩) (enc u) := by
  obtain ⟨a, cap, rfl, _, _, hby, hsh⟩ := h.shape
  have hl := enc_length_le u hu
  rcases hsh with ⟨_, h0, _⟩ | ⟨g, rfl, _, _⟩
  · rw [h0] at hl; simp at hl
  · exact ⟨g, cap, rfl, hby⟩
set_option maxRecDepth 20000 in
set_option maxHeartbeats 1000000 in
theorem rone_num (T num L : Nat) (a : Option Addr) (cap : Nat) (w : World) (hT : T ≤ 31) (hnum : num ≤ 18446744073709551615) :
    Calls Try.prog 32 #[FV (T : Int) false num (.slice a L cap)] w fun r w' => ∃ v, r = .returned v ∧ Own w' w.heap.size v (enc (2 * T) ++ enc num) ∧ Below w.heap.size w w' := by
  obtain ⟨i0, hi, hz0, hz1, hz2⟩ := info_parts Try.info5r
  have hTI : (T : Int) ≤ 31 := by omega
  have hw1 : IntKind.i64.wrap (2 * (T : Int)) = 2 * (T : Int) := by rw [wrap_i64]; omega
  have hw2 : IntKind.u64.wrap (2 * (T : Int)) = 2 * (T : Int) := by rw [IntKind.wrap_u64]; omega
  have hl1 := enc_length_le (2 * T) (by omega)
  have hl2 := enc_length_le num hnum
  obtain ⟨W, hW⟩ : ∃ W, w.alloc (.cells #[.int .i64 (T : Int), .bool false, .int .u64 (num : Int), .slice a L cap] 32) = W := ⟨_, rfl⟩
  have HF : Hid (FldAt W w.heap.size T false num (.slice a L cap) ∧ Below w.heap.size w W ∧ w.heap.size < W.heap.size) := by rw [← hW]; exact ⟨FldAt.new _ _ _ _ _, (Below.refl _ _).alloc (Nat.le_refl _) _, by simp⟩
  have HW : Hid (_ = W) := hW
  have HBY : Hid (∀ i, (enc (2 * T) ++ enc num).getD i 0 < 256) := by
    intro i
    rw [List.getD_eq_getElem?_getD]
    by_cases hi : i < (enc (2 * T) ++ enc num).length
    · rw [List.getElem?_eq_getElem hi]
      rcases List.mem_append.1 (List.getElem_mem hi) with h | h
      · exact enc_lt 9 (2 * T) (lt_pow10 _ (by omega)) _ h
      · exact enc_lt 9 num (lt_pow10 _ hnum) _ h
    · rw [List.getElem?_eq_none (by omega)]; simp
  have T1 : Hid True := trivial
  clear hW
  go_enter Try.func32, Try.ntmps32
  go_wp2
  rw [HW.out]
  obtain ⟨c0, _, c2, _⟩ := HF.out.1.cells
  go_region_held3 (fun w' => w'.cell? ⟨w.heap.size, 0, none⟩ = some (.int .i64 (T : Int)) ∧ w'.cell? ⟨w.heap.size, 2, none⟩ = some (.int .u64 (num : Int))) (go_keep) (first
    | (go_at_call 44; clear T1; refine (rencode_at _ (2 * T) (by omega) _ (by omega)).mono ?_; rintro r w1 ⟨v1, rfl, ho1, hb1⟩; have hf1 : FldAt w1 w.heap.size T false num (.slice a L cap) := (show FldAt W.drew w.heap.size T false num (.slice a L cap) from HF.out.1).keep hb1; obtain ⟨d0, _, d2, _⟩ := hf1.cells; have HB1 : Hid (Below W.heap.size W.drew w1) := hb1; have HO1 : Hid (Own w1 W.heap.size v1 (enc (2 * T))) := ho1; have HF1 : Hid (FldAt w1 w.heap.size T false num (.slice a L cap)) := hf1; clear hb1 ho1 hf1)
    | (go_at_call 44; refine (rencode_at _ num rfl _ hnum).mono ?_; rintro r w2 ⟨v2, rfl, ho2, hb2⟩; obtain ⟨g2, cap2, rfl, hby2⟩ := enc_shape hnum ho2; have hf2 := HF1.out.keep hb2; obtain ⟨x0, _, x2, _⟩ := hf2.cells; have HF2 : Hid (FldAt w2 w.heap.size T false num (.slice a L cap)) := hf2; have HO2 : Hid (Own w2 W.heap.size v1 (enc (2 * T))) := own_app HO1.out hb2; have HB2 : Hid (Below W.heap.size W.drew w2) := HB1.out.trans (hb2.mono HB1.out.size); have HY2 : Hid (Bytes w2 (some ⟨g2, 0, none⟩) (enc num)) := hby2; have hs2 : W.heap.size ≤ w2.heap.size := HB2.out.size; clear hf2 ho2 hb2 hby2)
    | ((refine step_append_lies _ (by rfl) _ _ 27 (by rfl) W.heap.size 5 i0 (.int .u8 0) 1 1 Try.underlying27 hi hz0 hz1 hz2 rfl (by decide) v1 (enc (2 * T)).length (B8 (enc (2 * T))) (by rfl) HO2.out.2 ⟨g2, 0, none⟩ (enc num).length cap2 (B8 (enc num)) (by rfl) (B8_length _) (bytes_cells HY2.out) (B8_one _) (by omega) (by unfold maxLen; omega) (by omega) hs2 w2.heap.size rfl ?_; intro g3 cap3 w3 hown3 hgrow3 hat3 hlt3; have hf3 : FldAt w3 w.heap.size T false num (.slice a L cap) := HF2.out.grown HO2.out.2 hgrow3; obtain ⟨y0, _, y2, _⟩ := hf3.cells; have HB3 : Hid (Below W.heap.size W.drew w3) := HB2.out.grown hgrow3 hs2 (fun k hk => (HO2.out.2.lt k hk).1); have HO3 : Hid (w3.ownsRow W.heap.size 5 1 (.slice (some ⟨g3, 0, none⟩) ((enc (2 * T)).length + (enc num).length) cap3) ((enc (2 * T)).length + (enc num).length) (B8 (enc (2 * T)) ++ B8 (enc num))) := hown3; clear hf3 hown3 hgrow3 hat3)))
  go_wp2
  go_ret
  have hB : Below w.heap.size w w3 := HF.out.2.1.trans ((((Below.refl W.heap.size W).drew).trans HB3.out).mono (Nat.le_of_lt HF.out.2.2))
  refine ⟨_, rfl, ⟨HBY.out, ?_⟩, hB⟩
  rw [List.length_append, B8_append]
  exact World.ownsRow.mono (base' := w.heap.size) HO3.out (Nat.le_of_lt HF.out.2.2)
set_option maxRecDepth 20000 in
set_option maxHeartbeats 1000000 in
theorem rone_text (T num : Nat) (l : List Nat) (b off cap : Nat) (w : World) (hT : T ≤ 31) (hl0 : 0 < l.length) (hl200 : l.length ≤ 200) (hby : Bytes w (some ⟨b, off, none⟩) l) :
    Calls Try.prog 32 #[FV (T : Int) true num (.slice (some ⟨b, off, none⟩) l.length cap)] w fun r w' => ∃ v, r = .returned v ∧ Own w' w.heap.size v (enc (2 * T + 1) ++ (enc l.length ++ l)) ∧ Below w.heap.size w w' := by
  obtain ⟨i0, hi, hz0, hz1, hz2⟩ := info_parts Try.info5r
  obtain ⟨L, hL⟩ : ∃ L, l.length = L := ⟨_, rfl⟩
  have HL : Hid (l.length = L) := hL
  rw [hL] at hl0 hl200 ⊢
  have HYL : Hid (Bytes w (some ⟨b, off, none⟩) l) := hby
  have hTI : (T : Int) ≤ 31 := by omega
  have hLI : (L : Int) ≤ 200 := by omega
  have hL0 : (0 : Int) ≤ (L : Int) := by omega
  have hw5 : IntKind.u64.wrap (L : Int) = (L : Int) := by rw [IntKind.wrap_u64]; omega
  clear hL hby
  have hw1 : IntKind.i64.wrap (2 * (T : Int)) = 2 * (T : Int) := by rw [wrap_i64]; omega
  have hw2 : IntKind.i64.wrap (2 * (T : Int) + 1) = 2 * (T : Int) + 1 := by rw [wrap_i64]; omega
  have hw3 : IntKind.u64.wrap (2 * (T : Int) + 1) = 2 * (T : Int) + 1 := by rw [IntKind.wrap_u64]; omega
  have hl1 := enc_length_le (2 * T + 1) (by omega)
  have hl2 := enc_length_le L (by omega)
  obtain ⟨W, hW⟩ : ∃ W, w.alloc (.cells #[.int .i64 (T : Int), .bool true, .int .u64 (num : Int), .slice (some ⟨b, off, none⟩) L cap] 32) = W := ⟨_, rfl⟩
  have HF : Hid (FldAt W w.heap.size T true num (.slice (some ⟨b, off, none⟩) L cap) ∧ Below w.heap.size w W ∧ w.heap.size < W.heap.size) := by rw [← hW]; exact ⟨FldAt.new _ _ _ _ _, (Below.refl _ _).alloc (Nat.le_refl _) _, by simp⟩
  have HW : Hid (_ = W) := hW
  have HBY : Hid (∀ i, (enc (2 * T + 1) ++ (enc L ++ l)).getD i 0 < 256) := by
    intro i
    rw [List.getD_eq_getElem?_getD]
    by_cases hi : i < (enc (2 * T + 1) ++ (enc L ++ l)).length
    · rw [List.getElem?_eq_getElem hi]
      rcases List.mem_append.1 (List.getElem_mem hi) with h | h
      · exact enc_lt 9 (2 * T + 1) (lt_pow10 _ (by omega)) _ h
      · rcases List.mem_append.1 h with h | h
        · exact enc_lt 9 L (lt_pow10 _ (by omega)) _ h
        · exact HYL.out.mem _ h
    · rw [List.getElem?_eq_none (by omega)]; simp
  have T1 : Hid True := trivial
  clear hW
  go_enter Try.func32, Try.ntmps32
  go_wp2
  rw [HW.out]
  obtain ⟨c0, _, _, c3⟩ := HF.out.1.cells
  go_region_held3 (fun w' => w'.cell? ⟨w.heap.size, 0, none⟩ = some (.int .i64 (T : Int)) ∧ w'.cell? ⟨w.heap.size, 3, none⟩ = some (.slice (some ⟨b, off, none⟩) L cap)) (go_keep) (first
    | (go_at_call 44; clear T1; refine (rencode_at _ (2 * T + 1) (by omega) _ (by omega)).mono ?_; rintro r w1 ⟨v1, rfl, ho1, hb1⟩; have hf1 : FldAt w1 w.heap.size T true num (.slice (some ⟨b, off, none⟩) L cap) := (show FldAt W.drew w.heap.size T true num (.slice (some ⟨b, off, none⟩) L cap) from HF.out.1).keep hb1; obtain ⟨d0, _, _, d2⟩ := hf1.cells; have HB1 : Hid (Below W.heap.size W.drew w1) := hb1; have HO1 : Hid (Own w1 W.heap.size v1 (enc (2 * T + 1))) := ho1; have HF1 : Hid (FldAt w1 w.heap.size T true num (.slice (some ⟨b, off, none⟩) L cap)) := hf1; clear hb1 ho1 hf1)
    | (go_at_call 44; refine (rencode_at _ L (by omega) _ (by omega)).mono ?_; rintro r w2 ⟨v2, rfl, ho2, hb2⟩; obtain ⟨g2, cap2, rfl, hby2⟩ := enc_shape (by omega) ho2; have hf2 := HF1.out.keep hb2; obtain ⟨x0, _, _, x2⟩ := hf2.cells; have HF2 : Hid (FldAt w2 w.heap.size T true num (.slice (some ⟨b, off, none⟩) L cap)) := hf2; have HO2 : Hid (Own w2 W.heap.size v1 (enc (2 * T + 1))) := own_app HO1.out hb2; have HB2 : Hid (Below W.heap.size W.drew w2) := HB1.out.trans (hb2.mono HB1.out.size); have HY2 : Hid (Bytes w2 (some ⟨g2, 0, none⟩) (enc L)) := hby2; have hs2 : W.heap.size ≤ w2.heap.size := HB2.out.size; clear hf2 ho2 hb2 hby2)
    | ((refine step_append_lies _ (by rfl) _ _ 27 (by rfl) W.heap.size 5 i0 (.int .u8 0) 1 1 Try.underlying27 hi hz0 hz1 hz2 rfl (by decide) v1 (enc (2 * T + 1)).length (B8 (enc (2 * T + 1))) (by rfl) HO2.out.2 ⟨g2, 0, none⟩ (enc L).length cap2 (B8 (enc L)) (by rfl) (B8_length _) (bytes_cells HY2.out) (B8_one _) (by omega) (by unfold maxLen; omega) (by omega) hs2 w2.heap.size rfl ?_; intro g3 cap3 w3 hown3 hgrow3 hat3 hlt3; have hf3 : FldAt w3 w.heap.size T true num (.slice (some ⟨b, off, none⟩) L cap) := HF2.out.grown HO2.out.2 hgrow3; obtain ⟨y0, _, _, y2⟩ := hf3.cells; have HB3 : Hid (Below W.heap.size W.drew w3) := HB2.out.grown hgrow3 hs2 (fun k hk => (HO2.out.2.lt k hk).1); have HO3 : Hid (w3.ownsRow W.heap.size 5 1 (.slice (some ⟨g3, 0, none⟩) ((enc (2 * T + 1)).length + (enc L).length) cap3) ((enc (2 * T + 1)).length + (enc L).length) (B8 (enc (2 * T + 1)) ++ B8 (enc L))) := hown3; clear hf3 hown3 hgrow3 hat3)))
  have hB : Below w.heap.size w w3 := HF.out.2.1.trans ((((Below.refl W.heap.size W).drew).trans HB3.out).mono (Nat.le_of_lt HF.out.2.2))
  have HBB : Hid (Below w.heap.size w w3) := hB
  have HY3 : Hid (Bytes w3 (some ⟨b, off, none⟩) l) := HYL.out.keep hB
  have hs3 : W.heap.size ≤ w3.heap.size := HB3.out.size
  clear hB
  go_wp2_with (at_builtin; refine wpList_append_own _ rfl _ _ 27 rfl W.heap.size 5 i0 (.int .u8 0) 1 1 Try.underlying27 hi hz0 hz1 hz2 rfl (by decide) _ _ _ rfl HO3.out ⟨b, off, none⟩ _ _ (B8 l) rfl (by rw [B8_length, HL.out]) (bytes_cells HY3.out) (B8_one _) (by unfold maxLen; omega) (by omega) hs3 ?_; intro v5 w5 ho5 hg5 _; have HB5 : Hid (Below w.heap.size w w5) := HBB.out.grown hg5 (Nat.le_trans (Nat.le_of_lt HF.out.2.2) hs3) (fun k hk => Nat.le_trans (Nat.le_of_lt HF.out.2.2) (HO3.out.lt k hk).1); have HO5 : Hid (w5.ownsRow W.heap.size 5 1 v5 ((enc (2 * T + 1)).length + (enc L).length + L) (B8 (enc (2 * T + 1)) ++ B8 (enc L) ++ B8 l)) := ho5; clear ho5 hg5)
  go_ret
  refine ⟨_, rfl, ⟨HBY.out, ?_⟩, HB5.out⟩
  rw [List.length_append, List.length_append, HL.out, B8_append, B8_append, ← Nat.add_assoc, ← List.append_assoc]
  exact World.ownsRow.mono (base' := w.heap.size) HO5.out (Nat.le_of_lt HF.out.2.2)
end Go.Proofs.Ytbdgiecnhgiogaa
namespace Go.Proofs.Ytbdgiecnhgiogaa
open Go.ChangeShapes Go.WideShapes Go.ChangeAt Go.RowKit
set_option linter.unusedVariables false
theorem rone_any (F : Fld) (last : Int) (ad : Option Addr) (cap : Nat) (w : World) (hz : flt F last = 0) (hnum : F.num ≤ 18446744073709551615) (hby : Bytes w ad F.bytes) :
    Calls Try.prog 32 #[FV F.tag F.text F.num (.slice ad F.bytes.length cap)] w fun r w' => ∃ v, r = .returned v ∧ Own w' w.heap.size v (one F) ∧ Below w.heap.size w w' := by
  obtain ⟨t1, t2, t3⟩ := flt_tag hz
  obtain ⟨T, hT⟩ : ∃ T : Nat, F.tag = T := ⟨F.tag.toNat, by omega⟩
  obtain ⟨tag, text, num, bytes⟩ := F
  simp only at hT hnum hby ⊢
  subst hT
  cases text with
  | false =>
    have e0 : one ⟨(T : Int), false, num, bytes⟩ = enc (2 * T) ++ enc num := by unfold one; rw [if_neg (by simp)]; simp only [Int.toNat_natCast]
    rw [e0]
    exact rone_num T num bytes.length ad cap w (by simp only at t2; omega) hnum
  | true =>
    have e0 : one ⟨(T : Int), true, num, bytes⟩ = enc (2 * T + 1) ++ (enc bytes.length ++ bytes) := by unfold one; rw [if_pos rfl]; simp only [Int.toNat_natCast]
    rw [e0]
    unfold flt at hz
    rw [if_neg (by simp only at t1 t2 ⊢; omega), if_neg (by simp only at t3 ⊢; omega), if_pos rfl] at hz
    have h3 : bytes ≠ [] := fun hc => by rw [if_pos hc] at hz; cases hz
    rw [if_neg h3] at hz
    have h4 : ¬ 200 < bytes.length := fun hc => by rw [if_pos hc] at hz; cases hz
    obtain ⟨b, off, rfl, _, _⟩ := hby.nonempty h3
    exact rone_text T num bytes b off cap w (by simp only at t2; omega) (List.length_pos_iff.2 h3) (by omega) hby
theorem one_ne (F : Fld) (A : Int) (hz : flt F A = 0) (hnum : F.num ≤ 18446744073709551615) : one F ≠ [] := by
  have h := (one_len F A hnum hz).1
  intro h0
  rw [h0] at h
  simp at h
set_option maxRecDepth 20000 in
set_option maxHeartbeats 1000000 in
theorem rtenc_any (L : List (Fld × Value)) (b off n cap : Nat) (w : World) (hn : L.length = n) (hfs : FsAt w (some ⟨b, off, none⟩) L) (hm : n ≤ 140737488355328) :
    Calls Try.prog 14 #[.slice (some ⟨b, off, none⟩) n cap] w fun r w' => ∃ v, r = .returned (.tuple #[v, .int .i64 ((encs (L.map Prod.fst) 0 []).2 : Int)]) ∧ Own w' w.heap.size v (encs (L.map Prod.fst) 0 []).1 ∧ Below w.heap.size w w' := by
  obtain ⟨i0, hi, hz0, hz1, hz2⟩ := info_parts Try.info5r
  have HF : Hid (FsAt w (some ⟨b, off, none⟩) L) := hfs
  have HN : Hid (L.length = n) := hn
  have hmI : (n : Int) ≤ 140737488355328 := by omega
  have HO0 : Hid ((w.alloc (.cells #[] 5)).ownsRow w.heap.size 5 1 (.slice (some ⟨w.heap.size, 0, none⟩) 0 0) 0 []) := own_empty w _ (Nat.le_refl _)
  clear hfs hn
  go_enter Try.func14, Try.ntmps14
  go_wp2
  go_loopw [4, 5, 11] (fun va vb vi wr => ∃ (k : Nat) (A : Int) (acc : List Nat), k ≤ n ∧ vi = .int .i64 k ∧ va = .int .i64 A ∧ 0 ≤ A ∧ A ≤ 31 ∧ Hid (encs (L.map Prod.fst) 0 [] = encs ((L.drop k).map Prod.fst) A acc ∧ (acc.length : Int) ≤ 220 * A ∧ Own wr w.heap.size vb acc ∧ Below w.heap.size w wr)) (fun _ _ vi _ => n - (intOf vi).toNat)
  case atStart => exact ⟨0, 0, [], Nat.zero_le _, rfl, rfl, by omega, by omega, rfl, by simp, ⟨by simp, HO0.out⟩, (Below.refl _ _).alloc (Nat.le_refl _) _⟩
  case round =>
    obtain ⟨k, A, acc, hk, rfl, rfl, hA0, hA1, HI⟩ := hrel
    by_cases hkl : k < n
    · obtain ⟨p, hp⟩ : ∃ p, L[k]? = some p := ⟨_, List.getElem?_eq_getElem (by rw [HN.out]; exact hkl)⟩
      have hpm : p ∈ L := List.mem_of_getElem? hp
      obtain ⟨c0, c1, c2, c3⟩ := (HF.out.keep HI.out.2.2.2).cells k p hp
      have HCW : Hid (∀ w', Below w.heap.size w w' → w'.cell? ⟨b, off + k * 4, none⟩ = some (.int .i64 p.1.tag) ∧ w'.cell? ⟨b, off + k * 4 + 1, none⟩ = some (.bool p.1.text) ∧ w'.cell? ⟨b, off + k * 4 + 2, none⟩ = some (.int .u64 (p.1.num : Int)) ∧ w'.cell? ⟨b, off + k * 4 + 3, none⟩ = some p.2) := fun w' hw' => (HF.out.keep hw').cells k p hp
      obtain ⟨ad, pcap, hpv, hpc, _⟩ := (HF.out.fok p hpm).byt
      have HNUM : Hid (p.1.num ≤ 18446744073709551615) := (HF.out.fok p hpm).num
      have HBY : Hid (∀ w', Below w.heap.size w w' → Bytes w' ad p.1.bytes) := by
        intro w' hb'
        obtain ⟨ad2, cap2, h1, _, h3⟩ := ((HF.out.fok p hpm).keep hb').byt
        rw [hpv] at h1
        cases h1
        exact h3
      have HST : Hid (encs (L.map Prod.fst) 0 [] = if flt p.1 A ≠ 0 then ([], flt p.1 A) else encs ((L.drop (k + 1)).map Prod.fst) p.1.tag (acc ++ one p.1)) := by
        show _ = _
        rw [HI.out.1, drop_fld L k p hp, encs_cons]
      rw [hpv] at c3 HCW
      obtain ⟨F, hFe⟩ : ∃ F, p.1 = F := ⟨_, rfl⟩
      rw [hFe] at c0 c1 c2 c3 HNUM HBY HST HCW
      clear hpv hFe hp hpm
      by_cases hz : flt F A = 0
      · obtain ⟨t1, t2, t3⟩ := flt_tag hz
        have HZ : Hid (flt F A = 0) := hz
        have HST2 : Hid (encs (L.map Prod.fst) 0 [] = encs ((L.drop (k + 1)).map Prod.fst) F.tag (acc ++ one F)) := by show _ = _; rw [HST.out, hz, if_neg (by simp)]
        have hol := (one_len F A HNUM.out hz).2
        have HLEN : Hid (((acc ++ one F).length : Int) ≤ 220 * F.tag) := by
          have h2 := HI.out.2.1
          show ((acc ++ one F).length : Int) ≤ _
          rw [List.length_append]
          omega
        have hacc : acc.length + (one F).length ≤ 7000 := by have h2 := HLEN.out; rw [List.length_append] at h2; omega
        have HONE : Hid (one F ≠ []) := one_ne F A hz HNUM.out
        clear hz HST hol
        go_wp2_with (first
          | (go_at_call 16; refine (rfault_any F A ad pcap _ HNUM.out).mono ?_; rw [HZ.out]; rintro r w2 ⟨rfl, hb2⟩; have HB2 : Hid (Below w.heap.size w w2) := HI.out.2.2.2.trans (hb2.mono HI.out.2.2.2.size); have HO2 : Hid (Own w2 w.heap.size _ acc) := own_app HI.out.2.2.1 hb2; obtain ⟨d0, d1, d2, d3⟩ := HCW.out w2 HB2.out; clear hb2 c0 c1 c2 c3)
          | (go_at_call 32; refine (rone_any F A ad pcap _ HZ.out HNUM.out (HBY.out w2 HB2.out)).mono ?_; rintro r w3 ⟨v3, rfl, ho3, hb3⟩; have HOB : Hid (∀ i, (one F).getD i 0 < 256) := ho3.1; obtain ⟨g3, cp3, hv3, hcp3, hy3⟩ := ho3.row HONE.out; subst hv3; have HB3 : Hid (Below w.heap.size w w3) := HB2.out.trans (hb3.mono HB2.out.size); have HO3 : Hid (Own w3 w.heap.size _ acc) := own_app HO2.out hb3; have HY3 : Hid (Bytes w3 (some ⟨g3, 0, none⟩) (one F)) := hy3; clear ho3 hb3 hy3)
          | (at_builtin; refine wpList_append_own _ rfl _ _ 27 rfl w.heap.size 5 i0 (.int .u8 0) 1 1 Try.underlying27 hi hz0 hz1 hz2 rfl (by decide) _ _ _ rfl HO3.out.2 ⟨g3, 0, none⟩ _ _ (B8 (one F)) rfl (B8_length _) (bytes_cells HY3.out) (B8_one _) (by unfold maxLen; omega) (by omega) HB3.out.size ?_; intro v4 w4 ho4 hg4 _; have HB4 : Hid (Below w.heap.size w w4) := grown_row HB3.out HO3.out.2 HB3.out.size hg4; have HO4 : Hid (Own w4 w.heap.size v4 (acc ++ one F)) := Own.append HO3.out.1 HOB.out ho4; clear ho4 hg4))
        go_roundw
        case rel => exact ⟨k + 1, F.tag, acc ++ one F, by omega, by go_num, rfl, by omega, by omega, HST2.out, HLEN.out, HO4.out, HB4.out⟩
        case measure => simp [intOf]; omega
      · obtain ⟨e, he⟩ : ∃ e, flt F A = e := ⟨_, rfl⟩
        have HZ : Hid (flt F A = e) := he
        have heb : ((e : Int) != 0) = true := by rw [he] at hz; simp; omega
        have HST2 : Hid (encs (L.map Prod.fst) 0 [] = ([], e)) := by show _ = _; rw [HST.out, if_pos hz, he]
        clear hz he HST
        go_wp2_with (go_at_call 16; refine (rfault_any F A ad pcap _ HNUM.out).mono ?_; rw [HZ.out]; rintro r w2 ⟨rfl, hb2⟩; have HB2 : Hid (Below w.heap.size w w2) := HI.out.2.2.2.trans (hb2.mono HI.out.2.2.2.size); clear hb2)
        go_ret2
        exact ⟨_, by rw [HST2.out]; rfl, by rw [HST2.out]; exact own_nil _ _, HB2.out⟩
    · obtain rfl : k = n := by omega
      have HE : Hid (encs (L.map Prod.fst) 0 [] = if 1024 < acc.length then ([], 24) else (acc, 0)) := by
        show _ = _
        rw [HI.out.1, List.drop_eq_nil_of_le (by rw [HN.out]; exact Nat.le_refl _)]; rfl
      obtain ⟨xa, xc, rfl, _, _, _, _⟩ := HI.out.2.2.1.shape
      have hacc : (acc.length : Int) ≤ 6820 := by have := HI.out.2.1; omega
      obtain ⟨m, hm2⟩ : ∃ m, acc.length = m := ⟨_, rfl⟩
      have HM : Hid (acc.length = m) := hm2
      rw [hm2] at hacc
      by_cases hb : 1024 < m
      · have HE2 : Hid (encs (L.map Prod.fst) 0 [] = ([], 24)) := by show _ = _; rw [HE.out, if_pos (by rw [hm2]; exact hb)]
        have hbI : (1024 : Int) < (m : Int) := by omega
        clear HE
        go_wp2
        go_ret2
        exact ⟨_, by rw [HE2.out]; rfl, by rw [HE2.out]; exact own_nil _ _, HI.out.2.2.2⟩
      · have HE2 : Hid (encs (L.map Prod.fst) 0 [] = (acc, 0)) := by show _ = _; rw [HE.out, if_neg (by rw [hm2]; exact hb)]
        have hbI : ¬ (1024 : Int) < (m : Int) := by omega
        clear HE
        go_wp2
        go_ret2
        exact ⟨_, by rw [HE2.out]; rfl, by rw [HE2.out]; have h := HI.out.2.2.1; rw [hm2] at h; exact h, HI.out.2.2.2⟩
end Go.Proofs.Ytbdgiecnhgiogaa
