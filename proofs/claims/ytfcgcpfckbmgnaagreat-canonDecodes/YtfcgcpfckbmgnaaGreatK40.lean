/- Own texts, joined: Enc, Tlp, Tlw, Tlu, Tlg, Tlh, Tli, Tlj. -/
import Derived.Test.YtfcgcpfckbmgnaaGreatK39
import Derived.Test.YtfcgcpfckbmgnaaGreatK17
import Derived.Test.YtfcgcpfckbmgnaaGreatK00
import Derived.Laws.ResultCell
import Derived.Deep.Onto
import Derived.Deep.RegionHeld3
import Derived.Defers
import Derived.Recover
import Derived.Laws.Pointers
namespace Go.Proofs.YtfcgcpfckbmgnaaGreat
open Go.ChangeShapes Go.WideShapes Go.ChangeAt Go.RowKit
set_option maxHeartbeats 400000 in
theorem encode_any (u : Nat) (w : World) (hu : u ≤ 18446744073709551615) :
    Calls Tryz.prog 46 #[.int .u64 u] w fun e w' => ∃ v, e = .returned v ∧ Own w' w.heap.size v (enc u) ∧ Below w.heap.size w w' := by
  obtain ⟨i0, hi, hz0, hz1, hz2⟩ := info_parts Tryz.info5
  have hl := enc_length_le u hu
  obtain ⟨hl1, hl2⟩ := hl
  have HB : Hid (∀ i, (enc u).getD i 0 < 256) := enc_byte u hu
  generalize hE : enc u = l at *
  have HE : Hid (_ = _) := hE
  clear hE
  have hl3 : l.length ≤ maxLen := by unfold maxLen; omega
  go_enter Tryz.func46, Tryz.ntmps46
  go_wp2_with (first
    | (go_at_call 71; refine (size_any u _ hu).mono ?_; rw [HE.out]; rintro e w' ⟨rfl, rfl⟩)
    | (at_make; refine wpList_make_own _ rfl _ _ 22 rfl w.heap.size 5 i0 (.int .u8 0) 1 Tryz.underlying22 hi hz0 hz1 _ _ _ l.length rfl rfl rfl (by rw [hz2]; omega) hl3 (Nat.le_refl _) ?_))
  intro w1 ho hg
  have hb1 : Below w.heap.size w w1 := (Below.refl _ _).grown hg (Nat.le_refl _) (fun k hk => by cases hk)
  have hs1 := hb1.size
  clear hg
  go_wp2_with (go_at_call 70; refine (put_any u w.heap.size _ _ _ _ hu ho hs1 (by omega)).mono ?_; rw [HE.out, Nat.zero_add, List.nil_append]; rintro e w2 ⟨v, rfl, ho2, hb2⟩)
  go_ret
  exact ⟨v, rfl, ⟨HB.out, ho2⟩, hb1.trans hb2⟩
end Go.Proofs.YtfcgcpfckbmgnaaGreat
namespace Go.Proofs.YtfcgcpfckbmgnaaGreat
open Go.ChangeShapes Go.WideShapes Go.ChangeAt Go.RowKit
set_option linter.unusedVariables false
theorem encode_at (x : Int) (u : Nat) (hx : x = u) (w : World) (hu : u ≤ 18446744073709551615) :
    Calls Tryz.prog 46 #[.int .u64 x] w fun e w' => ∃ g cap, e = .returned (.slice (some ⟨g, 0, none⟩) (enc u).length cap) ∧ Bytes w' (some ⟨g, 0, none⟩) (enc u) ∧ w.heap.size ≤ g ∧ Below w.heap.size w w' := by
  subst hx
  refine (encode_any u w hu).mono ?_
  rintro e w1 ⟨v, rfl, ho, hb⟩
  obtain ⟨a, cap, rfl, _, _, hby, hsh⟩ := ho.shape
  have hl := enc_length_le u hu
  rcases hsh with ⟨_, h0, _⟩ | ⟨g, rfl, hg, _⟩
  · rw [h0] at hl; simp at hl
  · exact ⟨g, cap, rfl, hby, hg, hb⟩
/-- a field lies in block k -/
def FldAt (w : World) (k : Nat) (tag : Int) (text : Bool) (num : Nat) (bv : Value) : Prop := w.heap[k]? = some (.cells #[.int .i64 tag, .bool text, .int .u64 (num : Int), bv] 48)
theorem FldAt.cells {w : World} {k : Nat} {tag : Int} {text : Bool} {num : Nat} {bv : Value} (h : FldAt w k tag text num bv) : w.cell? ⟨k, 0, none⟩ = some (.int .i64 tag) ∧ w.cell? ⟨k, 1, none⟩ = some (.bool text) ∧ w.cell? ⟨k, 2, none⟩ = some (.int .u64 (num : Int)) ∧ w.cell? ⟨k, 3, none⟩ = some bv :=
  ⟨by rw [cell_of_row _ _ 0 _ _ _ h]; rfl, by rw [cell_of_row _ _ 1 _ _ _ h]; rfl, by rw [cell_of_row _ _ 2 _ _ _ h]; rfl, by rw [cell_of_row _ _ 3 _ _ _ h]; rfl⟩
theorem FldAt.new (w : World) (tag : Int) (text : Bool) (num : Nat) (bv : Value) : FldAt (w.alloc (.cells #[.int .i64 tag, .bool text, .int .u64 (num : Int), bv] 48)) w.heap.size tag text num bv := by
  unfold FldAt; simp only [World.alloc, Array.getElem?_push]; rw [if_pos trivial]
theorem FldAt.keep {w w' : World} {k : Nat} {tag : Int} {text : Bool} {num : Nat} {bv : Value} (h : FldAt w k tag text num bv) (hb : Below w.heap.size w w') : FldAt w' k tag text num bv := (hb.block k (lt_of_heap h)).trans h
theorem FldAt.grown {w w' : World} {base n k : Nat} {v : Value} {xs : List Value} {tag : Int} {text : Bool} {num : Nat} {bv : Value} (h : FldAt w k tag text num bv) (ho : w.ownsRow base 5 1 v n xs) (hg : w.grownBy w' v.ownBlock) : FldAt w' k tag text num bv := grown_other ho hg h (by decide)
set_option maxRecDepth 20000 in
set_option maxHeartbeats 1000000 in
theorem putn_any (T num L : Nat) (a : Option Addr) (cap base : Nat) (v : Value) (n : Nat) (xs : List Value) (w : World) (hT : T ≤ 31) (hnum : num ≤ 18446744073709551615)
    (hown : w.ownsRow base 5 1 v n xs) (hbase : base ≤ w.heap.size) (hn : n ≤ 140737488000000) :
    Calls Tryz.prog 72 #[v, FV (T : Int) false num (.slice a L cap)] w fun r w' => ∃ v', r = .returned v' ∧ w'.ownsRow base 5 1 v' (n + (enc (2 * T)).length + (enc num).length) (xs ++ B8 (enc (2 * T)) ++ B8 (enc num)) ∧ Below base w w' ∧ NB w w' := by
  obtain ⟨i0, hi, hz0, hz1, hz2⟩ := info_parts Tryz.info5
  have hl1 := enc_length_le (2 * T) (by omega)
  have hl2 := enc_length_le num hnum
  obtain ⟨l1, hl1e⟩ : ∃ l1, enc (2 * T) = l1 := ⟨_, rfl⟩
  obtain ⟨l2, hl2e⟩ : ∃ l2, enc num = l2 := ⟨_, rfl⟩
  rw [hl1e] at hl1 ⊢
  rw [hl2e] at hl2 ⊢
  have HE : Hid (enc (2 * T) = l1 ∧ enc num = l2) := ⟨hl1e, hl2e⟩
  have HO : Hid (w.ownsRow base 5 1 v n xs) := hown
  have HF0 : Hid (FldAt (w.alloc (.cells #[.int .i64 (T : Int), .bool false, .int .u64 (num : Int), .slice a L cap] 48)) w.heap.size T false num (.slice a L cap)) := FldAt.new _ _ _ _ _
  have T1 : Hid True := trivial
  have T2 : Hid True := trivial
  have hTI : (T : Int) ≤ 31 := by omega
  clear hl1e hl2e hown
  go_enter Tryz.func72, Tryz.ntmps72
  go_wp2_with (first
    | (go_at_call 46; clear T1; refine (encode_at _ (2 * T) (by omega) _ (by omega)).mono ?_; rw [HE.out.1]; rintro r w1 ⟨g1, c1, rfl, hby1, hg1, hb1⟩; have HB1 : Hid (Below base w w1) := (((Below.refl base w).alloc hbase _).trans (hb1.mono (by simp; omega))); have HF1 : Hid (FldAt w1 w.heap.size T false num (.slice a L cap)) := HF0.out.keep hb1; have HQ1 : Hid (NB w w1) := (NB.of_below ((Below.refl w.heap.size w).alloc (Nat.le_refl _) _)).trans (NB.of_below hb1); have ho1 := own_below (HO.out.alloc _) hb1; have hs1 := HB1.out.size; clear hb1 HF0)
    | (at_builtin; clear T2; refine wpList_append_own _ rfl _ _ 22 rfl base 5 i0 (.int .u8 0) 1 1 Tryz.underlying22 hi hz0 hz1 hz2 rfl (by decide) _ _ _ rfl ho1 ⟨g1, 0, none⟩ _ _ (B8 l1) rfl (B8_length _) (bytes_cells hby1) (B8_one _) (by unfold maxLen; omega) (by omega) (by omega) ?_; intro v2 w2 ho2 hg2 _; have HB2 : Hid (Below base w w2) := grown_row HB1.out ho1 (by omega) hg2; have HQ2 : Hid (NB w w2) := HQ1.out.trans (NB.of_grown ho1 hg2); obtain ⟨_, _, hc2, _⟩ := (HF1.out.grown ho1 hg2).cells; have HO2 : Hid (w2.ownsRow base 5 1 v2 (n + l1.length) (xs ++ B8 l1)) := ho2; have hs2 := HB2.out.size; clear hg2 ho1 hby1 ho2 HF1)
    | (go_at_call 46; refine (encode_at _ num rfl _ hnum).mono ?_; rw [HE.out.2]; rintro r w3 ⟨g3, c3, rfl, hby3, hg3, hb3⟩; have HB3 : Hid (Below base w w3) := HB2.out.trans (hb3.mono (by omega)); have HQ3 : Hid (NB w w3) := HQ2.out.trans (NB.of_below hb3); have ho3 := own_below HO2.out hb3; have hs3 := HB3.out.size; clear hb3)
    | (at_builtin; refine wpList_append_own _ rfl _ _ 22 rfl base 5 i0 (.int .u8 0) 1 1 Tryz.underlying22 hi hz0 hz1 hz2 rfl (by decide) _ _ _ rfl ho3 ⟨g3, 0, none⟩ _ _ (B8 l2) rfl (B8_length _) (bytes_cells hby3) (B8_one _) (by unfold maxLen; omega) (by omega) (by omega) ?_; intro v4 w4 ho4 hg4 _; have HB4 : Hid (Below base w w4) := grown_row HB3.out ho3 (by omega) hg4; have HQ4 : Hid (NB w w4) := HQ3.out.trans (NB.of_grown ho3 hg4); clear hg4 ho3 hby3))
  go_ret
  exact ⟨v4, rfl, ho4, HB4.out, HQ4.out⟩
set_option maxRecDepth 20000 in
set_option maxHeartbeats 1000000 in
theorem putt_any (T num : Nat) (l : List Nat) (b off cap base : Nat) (v : Value) (n : Nat) (xs : List Value) (w : World) (hT : T ≤ 31) (hl0 : 0 < l.length) (hl : l.length ≤ 200) (hby : ∀ w', Below base w w' → Bytes w' (some ⟨b, off, none⟩) l)
    (hown : w.ownsRow base 5 1 v n xs) (hbase : base ≤ w.heap.size) (hn : n ≤ 140737488000000) :
    Calls Tryz.prog 72 #[v, FV (T : Int) true num (.slice (some ⟨b, off, none⟩) l.length cap)] w fun r w' => ∃ v', r = .returned v' ∧ w'.ownsRow base 5 1 v' (n + (enc (2 * T + 1)).length + (enc l.length).length + l.length) (xs ++ B8 (enc (2 * T + 1)) ++ B8 (enc l.length) ++ B8 l) ∧ Below base w w' ∧ NB w w' := by
  obtain ⟨i0, hi, hz0, hz1, hz2⟩ := info_parts Tryz.info5
  obtain ⟨L, hL⟩ : ∃ L, l.length = L := ⟨_, rfl⟩
  rw [hL] at hl hl0 ⊢
  have hl1 := enc_length_le (2 * T + 1) (by omega)
  have hl2 := enc_length_le L (by omega)
  obtain ⟨l1, hl1e⟩ : ∃ l1, enc (2 * T + 1) = l1 := ⟨_, rfl⟩
  obtain ⟨l2, hl2e⟩ : ∃ l2, enc L = l2 := ⟨_, rfl⟩
  rw [hl1e] at hl1 ⊢
  rw [hl2e] at hl2 ⊢
  have HE : Hid (enc (2 * T + 1) = l1 ∧ enc L = l2 ∧ l.length = L) := ⟨hl1e, hl2e, hL⟩
  have HO : Hid (w.ownsRow base 5 1 v n xs) := hown
  have HY : Hid (∀ w', Below base w w' → Bytes w' (some ⟨b, off, none⟩) l) := hby
  have HF0 : Hid (FldAt (w.alloc (.cells #[.int .i64 (T : Int), .bool true, .int .u64 (num : Int), .slice (some ⟨b, off, none⟩) L cap] 48)) w.heap.size T true num (.slice (some ⟨b, off, none⟩) L cap)) := FldAt.new _ _ _ _ _
  have T1 : Hid True := trivial
  have T2 : Hid True := trivial
  have T3 : Hid True := trivial
  have hTI : (T : Int) ≤ 31 := by omega
  have hLI : (L : Int) ≤ 200 := by omega
  clear hl1e hl2e hown hby hL
  go_enter Tryz.func72, Tryz.ntmps72
  go_wp2_with (first
    | (go_at_call 46; clear T1; refine (encode_at _ (2 * T + 1) (by omega) _ (by omega)).mono ?_; rw [HE.out.1]; rintro r w1 ⟨g1, c1, rfl, hby1, hg1, hb1⟩; have HB1 : Hid (Below base w w1) := (((Below.refl base w).alloc hbase _).trans (hb1.mono (by simp; omega))); have HF1 : Hid (FldAt w1 w.heap.size T true num (.slice (some ⟨b, off, none⟩) L cap)) := HF0.out.keep hb1; have HQ1 : Hid (NB w w1) := (NB.of_below ((Below.refl w.heap.size w).alloc (Nat.le_refl _) _)).trans (NB.of_below hb1); have ho1 := own_below (HO.out.alloc _) hb1; have hs1 := HB1.out.size; clear hb1 HF0)
    | (at_builtin; clear T2; refine wpList_append_own _ rfl _ _ 22 rfl base 5 i0 (.int .u8 0) 1 1 Tryz.underlying22 hi hz0 hz1 hz2 rfl (by decide) _ _ _ rfl ho1 ⟨g1, 0, none⟩ _ _ (B8 l1) rfl (B8_length _) (bytes_cells hby1) (B8_one _) (by unfold maxLen; omega) (by omega) (by omega) ?_; intro v2 w2 ho2 hg2 _; have HB2 : Hid (Below base w w2) := grown_row HB1.out ho1 (by omega) hg2; have HQ2 : Hid (NB w w2) := HQ1.out.trans (NB.of_grown ho1 hg2); have HF2 : Hid (FldAt w2 w.heap.size T true num (.slice (some ⟨b, off, none⟩) L cap)) := HF1.out.grown ho1 hg2; obtain ⟨_, _, _, hc2⟩ := HF2.out.cells; have HO2 : Hid (w2.ownsRow base 5 1 v2 (n + l1.length) (xs ++ B8 l1)) := ho2; have hs2 := HB2.out.size; clear hg2 ho1 hby1 ho2 HF1)
    | (go_at_call 46; refine (encode_at _ L (by omega) _ (by omega)).mono ?_; rw [HE.out.2.1]; rintro r w3 ⟨g3, c3, rfl, hby3, hg3, hb3⟩; have HB3 : Hid (Below base w w3) := HB2.out.trans (hb3.mono (by omega)); have HQ3 : Hid (NB w w3) := HQ2.out.trans (NB.of_below hb3); have HF3 : Hid (FldAt w3 w.heap.size T true num (.slice (some ⟨b, off, none⟩) L cap)) := HF2.out.keep hb3; have ho3 := own_below HO2.out hb3; have hs3 := HB3.out.size; clear hb3)
    | (at_builtin; clear T3; refine wpList_append_own _ rfl _ _ 22 rfl base 5 i0 (.int .u8 0) 1 1 Tryz.underlying22 hi hz0 hz1 hz2 rfl (by decide) _ _ _ rfl ho3 ⟨g3, 0, none⟩ _ _ (B8 l2) rfl (B8_length _) (bytes_cells hby3) (B8_one _) (by unfold maxLen; omega) (by omega) (by omega) ?_; intro v4 w4 ho4 hg4 _; have HB4 : Hid (Below base w w4) := grown_row HB3.out ho3 (by omega) hg4; have HQ4 : Hid (NB w w4) := HQ3.out.trans (NB.of_grown ho3 hg4); obtain ⟨_, _, _, hc4⟩ := (HF3.out.grown ho3 hg4).cells; have HO4 : Hid (w4.ownsRow base 5 1 v4 (n + l1.length + l2.length) (xs ++ B8 l1 ++ B8 l2)) := ho4; have hs4 := HB4.out.size; clear hg4 ho3 hby3 ho4)
    | (at_builtin; refine wpList_append_own _ rfl _ _ 22 rfl base 5 i0 (.int .u8 0) 1 1 Tryz.underlying22 hi hz0 hz1 hz2 rfl (by decide) _ _ _ rfl HO4.out ⟨b, off, none⟩ _ _ (B8 l) rfl (by rw [B8_length, HE.out.2.2]) (bytes_cells (HY.out _ HB4.out)) (B8_one _) (by unfold maxLen; omega) (by omega) (by omega) ?_; intro v6 w6 ho6 hg6 _; have HB6 : Hid (Below base w w6) := grown_row HB4.out HO4.out (by omega) hg6; have HQ6 : Hid (NB w w6) := HQ4.out.trans (NB.of_grown HO4.out hg6); clear hg6))
  go_ret
  exact ⟨v6, rfl, ho6, HB6.out, HQ6.out⟩
/-- put, for every right field -/
theorem putf_any (F : Fld) (last : Int) (ad : Option Addr) (cap base : Nat) (v : Value) (acc : List Nat) (w : World) (hz : flt F last = 0) (hnum : F.num ≤ 18446744073709551615) (hby : ∀ w', Below base w w' → Bytes w' ad F.bytes) (hown : Own w base v acc) (hbase : base ≤ w.heap.size) (hn : acc.length ≤ 140737488000000) :
    Calls Tryz.prog 72 #[v, FV F.tag F.text F.num (.slice ad F.bytes.length cap)] w fun r w' => ∃ v', r = .returned v' ∧ Own w' base v' (acc ++ one F) ∧ Below base w w' ∧ NB w w' := by
  obtain ⟨t1, t2, t3⟩ := flt_tag hz
  obtain ⟨T, hT⟩ : ∃ T : Nat, F.tag = T := ⟨F.tag.toNat, by omega⟩
  have hbt : ∀ x ∈ one F, x < 256 := by
    intro x hx
    have hbm : ∀ x ∈ F.bytes, x < 256 := (hby w (Below.refl _ _)).mem
    have he : ∀ u, u ≤ 18446744073709551615 → ∀ x ∈ enc u, x < 256 := fun u hu => enc_lt 9 u (lt_pow10 u hu)
    have hlen := (one_len F last hnum hz).2
    unfold one at hx hlen
    by_cases ht : F.text = true
    · rw [if_pos ht] at hx hlen
      simp only [List.length_append] at hlen
      rcases List.mem_append.1 hx with h | h
      · exact he _ (by omega) x h
      · rcases List.mem_append.1 h with h | h
        · exact he _ (by omega) x h
        · exact hbm x h
    · rw [if_neg ht] at hx
      rcases List.mem_append.1 hx with h | h
      · exact he _ (by omega) x h
      · exact he _ hnum x h
  have hfin : ∀ i, (acc ++ one F).getD i 0 < 256 := by
    intro i
    rw [List.getD_eq_getElem?_getD, List.getElem?_append]
    split
    · have := hown.1 i; rwa [List.getD_eq_getElem?_getD] at this
    · by_cases hi : i - acc.length < (one F).length
      · rw [List.getElem?_eq_getElem hi]; exact hbt _ (List.getElem_mem _)
      · rw [List.getElem?_eq_none (by omega)]; simp
  obtain ⟨tag, text, num, bytes⟩ := F
  simp only at hT hnum hby ⊢
  subst hT
  cases text with
  | false =>
    refine (putn_any T num bytes.length ad cap base v acc.length (B8 acc) w (by simp only at t2; omega) hnum hown.2 hbase hn).mono ?_
    rintro r w' ⟨v', h1, h2, h3, h4⟩
    refine ⟨v', h1, ⟨hfin, ?_⟩, h3, h4⟩
    unfold one
    rw [if_neg (by simp)]
    simp only [Int.toNat_natCast]
    rw [B8_append, B8_append, List.length_append, List.length_append, ← List.append_assoc, ← Nat.add_assoc]
    exact h2
  | true =>
    unfold flt at hz
    rw [if_neg (by simp only at t1 t2 ⊢; omega), if_neg (by simp only at t3 ⊢; omega), if_pos rfl] at hz
    have h3 : bytes ≠ [] := fun hc => by rw [if_pos hc] at hz; cases hz
    rw [if_neg h3] at hz
    have h4 : ¬ 200 < bytes.length := fun hc => by rw [if_pos hc] at hz; cases hz
    obtain ⟨b, off, rfl, _, _⟩ := (hby w (Below.refl _ _)).nonempty h3
    refine (putt_any T num bytes b off cap base v acc.length (B8 acc) w (by simp only at t2; omega) (List.length_pos_iff.2 h3) (by omega) hby hown.2 hbase hn).mono ?_
    rintro r w' ⟨v', g1, g2, g3, g4⟩
    refine ⟨v', g1, ⟨hfin, ?_⟩, g3, g4⟩
    unfold one
    rw [if_pos rfl]
    simp only [Int.toNat_natCast]
    rw [B8_append, B8_append, B8_append, List.length_append, List.length_append, List.length_append, ← List.append_assoc, ← List.append_assoc, ← Nat.add_assoc, ← Nat.add_assoc]
    exact g2
end Go.Proofs.YtfcgcpfckbmgnaaGreat
namespace Go.Proofs.YtfcgcpfckbmgnaaGreat
open Go.ChangeShapes Go.WideShapes Go.ChangeAt Go.RowKit
set_option linter.unusedVariables false
theorem Tryz.infoFl : (Tryz.prog.info? 48).map (·.size) = some 4 := by kernel_rfl
theorem FldAt.loadVar {w : World} {k : Nat} {tag : Int} {text : Bool} {num : Nat} {bv : Value} (h : FldAt w k tag text num bv) : (Go.loadVar 48 ⟨k, 0, none⟩).run Tryz.prog w = .ok (FV tag text num bv) w :=
  run_loadVar_row _ _ _ _ _ _ _ h Tryz.underlying48 rfl Tryz.infoFl
theorem FldAt.load {w : World} {k : Nat} {tag : Int} {text : Bool} {num : Nat} {bv : Value} (h : FldAt w k tag text num bv) : (Instr.loadAt 48 (.pointer (some ⟨k, 0, none⟩))).run Tryz.prog w = .ok (FV tag text num bv) w := by
  simp only [Instr.loadAt, Instr.sureAddr, Sem.run_bind, Sem.run_pure, Result.andThen_ok, h.loadVar]
theorem fld_one (tag : Int) (text : Bool) (num : Nat) (bv : Value) (hv : bv.oneCell' = true) : (#[.int .i64 tag, .bool text, .int .u64 (num : Int), bv] : Array Value).all (·.oneCell') = true := by
  simp [hv]; exact ⟨rfl, rfl, rfl⟩
theorem FldAt.store {w : World} {k : Nat} {tag : Int} {text : Bool} {num : Nat} {bv : Value} (h : FldAt w k tag text num bv) (tag2 : Int) (text2 : Bool) (num2 : Nat) (bv2 : Value) (hv : bv2.oneCell' = true) : ∃ w2, (Instr.storeAt 48 (.pointer (some ⟨k, 0, none⟩)) (FV tag2 text2 num2 bv2)).run Tryz.prog w = .ok () w2 ∧ FldAt w2 k tag2 text2 num2 bv2 ∧ (w2.os = w.os ∧ w2.tape = w.tape ∧ w2.output = w.output) ∧ (∀ j, j ≠ k → w2.heap[j]? = w.heap[j]?) ∧ w2.heap.size = w.heap.size := by
  refine ⟨w.setRow k #[.int .i64 tag2, .bool text2, .int .u64 (num2 : Int), bv2], ?_, ?_, ⟨rfl, rfl, rfl⟩, fun j hj => ?_, ?_⟩
  · simp only [Instr.storeAt, Instr.sureAddr, Sem.run_bind, Sem.run_pure, Result.andThen_ok, run_storeVar_row w k 48 48 #[.int .i64 tag, .bool text, .int .u64 (num : Int), bv] #[.int .i64 tag2, .bool text2, .int .u64 (num2 : Int), bv2] h Tryz.infoFl rfl (fld_one tag2 text2 num2 bv2 hv)]
  · unfold FldAt at h ⊢
    simp [World.setRow, Array.getElem?_modify, h]
  · simp only [World.setRow, Array.getElem?_modify]
    rw [if_neg (Ne.symm hj)]
  · simp [World.setRow]
theorem wpList_load_fld {ops : Array Oper} {rest : List Oper} {o : Oper} {a : Act} {w : World} {Q : Exit → Act → World → Prop} (hgd : o.guard = none) (x : Operand) (ho : o.op = .load 48 x)
    {k : Nat} {tag : Int} {text : Bool} {num : Nat} {bv : Value} (hL : FldAt w k tag text num bv) (hx : a.eval x = .pointer (some ⟨k, 0, none⟩)) (h : wpList Tryz.prog ops Q rest (a.put o.dst (FV tag text num bv)) w) : wpList Tryz.prog ops Q (o :: rest) a w :=
  wpList_plain hgd fun _ hK => by
    unfold Oper.wp execOp
    simp only [ho, hx, Sem.run_bind, Sem.run_pure, Result.andThen_ok, hL.load]
    exact hK _ _ h
theorem wpList_store_fld {ops : Array Oper} {rest : List Oper} {o : Oper} {a : Act} {w : World} {Q : Exit → Act → World → Prop} (hgd : o.guard = none) (x y : Operand) (ho : o.op = .store 48 x y)
    {k : Nat} {tag tag2 : Int} {text text2 : Bool} {num num2 : Nat} {bv bv2 : Value} (hL : FldAt w k tag text num bv) (hv : bv2.oneCell' = true) (hx : a.eval x = .pointer (some ⟨k, 0, none⟩)) (hy : a.eval y = FV tag2 text2 num2 bv2)
    (h : ∀ w2, FldAt w2 k tag2 text2 num2 bv2 → (w2.os = w.os ∧ w2.tape = w.tape ∧ w2.output = w.output) → (∀ j, j ≠ k → w2.heap[j]? = w.heap[j]?) → w2.heap.size = w.heap.size → wpList Tryz.prog ops Q rest (a.put o.dst undef) w2) : wpList Tryz.prog ops Q (o :: rest) a w :=
  wpList_plain hgd fun _ hK => by
    obtain ⟨w2, h1, h2, h3, h4, h5⟩ := hL.store tag2 text2 num2 bv2 hv
    unfold Oper.wp execOp
    simp only [ho, hx, hy, Sem.run_bind, Sem.run_pure, Result.andThen_ok, h1]
    exact hK _ _ (h w2 h2 h3 h4 h5)
theorem results_fld {fn : Func} {p : Tmp} (h : fn.results = #[.cell p 48]) (tmps : Array Value) (w : World) (k : Nat) {tag : Int} {text : Bool} {num : Nat} {bv : Value} (hp : tmps.getD p undef = .pointer (some ⟨k, 0, none⟩)) (hl : FldAt w k tag text num bv) :
    (results fn tmps).run Tryz.prog w = .ok (FV tag text num bv) w := by
  simp only [Array.getD_eq_getD_getElem?] at hp
  simp [results, h, hp, asAddr, hl.loadVar]
theorem own_same {w w' : World} {base : Nat} {e : TypeId} {size : Nat} {v : Value} {n : Nat} {xs : List Value} (h : w.ownsRow base e size v n xs) (hs : ∀ k, base ≤ k → w'.heap[k]? = w.heap[k]?) : w'.ownsRow base e size v n xs := by
  refine ⟨h.1, ?_⟩
  rcases h.2 with h2 | ⟨g, cap, cur, h3, h4, h5, h6⟩
  · exact .inl h2
  · exact .inr ⟨g, cap, cur, h3, h4, (hs g h4).trans h5, h6⟩
theorem FldAt.setNum {w : World} {k : Nat} {tag : Int} {text : Bool} {num : Nat} {bv : Value} (h : FldAt w k tag text num bv) (u : Nat) : FldAt (w.setCell ⟨k, 2, none⟩ (.int .u64 (u : Int))) k tag text u bv := by
  unfold FldAt; rw [heap_setCell_same w k 2 _ _ _ h]; rfl
theorem FldAt.setBytes {w : World} {k : Nat} {tag : Int} {text : Bool} {num : Nat} {bv : Value} (h : FldAt w k tag text num bv) (v : Value) : FldAt (w.setCell ⟨k, 3, none⟩ v) k tag text num v := by
  unfold FldAt; rw [heap_setCell_same w k 3 _ _ _ h]; rfl
end Go.Proofs.YtfcgcpfckbmgnaaGreat
namespace Go.Proofs.YtfcgcpfckbmgnaaGreat
open Go.ChangeShapes Go.WideShapes Go.ChangeAt Go.RowKit
set_option linter.unusedVariables false
set_option maxRecDepth 20000 in
set_option maxHeartbeats 1000000 in
theorem text_ok (l : List Nat) (b off n cap i u c : Nat) (w : World) (hc : CurAt w c (some ⟨b, off, none⟩) n cap i) (hn : l.length = n) (hb : Bytes w (some ⟨b, off, none⟩) l) (hcap : n ≤ cap) (hu : ¬ 200 < u) (hu0 : 0 < u) (hl : n ≤ 1024) (hs : i + u ≤ n) :
    Calls Tryz.prog 78 #[.pointer (some ⟨c, 0, none⟩), .int .u64 (u : Int)] w fun r w' => ∃ v, r = .returned v ∧ Own w' w.heap.size v ((l.drop i).take u) ∧ CurAt w' c (some ⟨b, off, none⟩) n cap (i + u) ∧ Kept c c w w' := by
  obtain ⟨h0, h1, h2⟩ := hc.cells
  have HC : Hid (CurAt w c (some ⟨b, off, none⟩) n cap i) := hc
  have HBq : Hid (Bytes w (some ⟨b, off + i, none⟩) ((l.drop i).take u)) := (hb.drop i).take u
  have HL2 : Hid (((l.drop i).take u).length = u) := by show _ = _; rw [List.length_take, List.length_drop, hn]; omega
  obtain ⟨E, hE⟩ : ∃ E : Nat, i + u = E := ⟨_, rfl⟩
  have hEI : (i : Int) + (u : Int) = (E : Int) := by omega
  have hiE : (i : Int) ≤ (E : Int) := by omega
  have hEn : (E : Int) ≤ (n : Int) := by omega
  have hEc : (E : Int) ≤ (cap : Int) := by omega
  have hEk : (E : Int) ≤ 1024 := by omega
  have hi0 : (0 : Int) ≤ (i : Int) := by omega
  have HEu : Hid (E - i = u) := by show _ = _; omega
  have HLE : Hid (((l.drop i).take u).length = E - i) := by show _ = _; rw [HL2.out]; omega
  have hEi : 0 < E - i := by omega
  have hEi2 : E - i ≤ 140737488355328 := by omega
  have hci : ¬ cap = i := by omega
  rw [hE]
  clear hc hb hn hE
  go_enter Tryz.func78, Tryz.ntmps78
  go_wp2
  go_region_held3 (fun w' => w'.cell? ⟨c, 0, none⟩ = some (.slice (some ⟨b, off, none⟩) n cap) ∧ w'.cell? ⟨c, 1, none⟩ = some (.int .i64 (i : Int))) (go_keep) ((go_at_call 69; refine (clone_any _ _ _ _ _ _ HLE.out hEi (HBq.out.drewN 1) hEi2).mono ?_; rintro r w1 ⟨v, rfl, ho, hb1⟩; have hcu := (HC.out.drewN 1).keep hb1; obtain ⟨g0, g1, g2⟩ := hcu.cells; have HO : Hid (Own w1 w.heap.size v ((l.drop i).take u)) := ho; have HB1 : Hid (Below w.heap.size (w.drewN 1) w1) := hb1; have HC1 : Hid (CurAt w1 c (some ⟨b, off, none⟩) n cap i) := hcu; clear ho hb1 hcu))
  go_wp2
  go_ret
  refine ⟨v, rfl, ⟨HO.out.1, ownsRow_setCell_below HO.out.2 (a := ⟨c, 1, none⟩) (show c < w.heap.size from lt_of_heap (show w.heap[c]? = _ from HC.out)) _⟩, HC1.out.to E, ?_⟩
  have hkp : Kept c c w w1 := ⟨HB1.out.os, HB1.out.tape, HB1.out.output, HB1.out.size, fun k hk _ _ => HB1.out.block k hk⟩
  exact hkp.set 1 _
end Go.Proofs.YtfcgcpfckbmgnaaGreat
namespace Go.Proofs.YtfcgcpfckbmgnaaGreat
open Go.ChangeShapes Go.WideShapes Go.ChangeAt Go.RowKit
set_option linter.unusedVariables false
theorem Kept.refl1 (g : Nat) (w : World) : Kept g g w w := Kept.refl g g w
theorem Kept.chain1 {g : Nat} {a b c : World} (h : Kept g g a b) (k : Kept g g b c) : Kept g g a c :=
  ⟨k.os.trans h.os, k.tape.trans h.tape, k.output.trans h.output, Nat.le_trans h.size k.size, fun j hj h1 h2 => (k.block j (Nat.lt_of_lt_of_le hj h.size) h1 h2).trans (h.block j hj h1 h2)⟩
theorem Kept.of_below1 {g : Nat} {a b : World} (h : Below a.heap.size a b) : Kept g g a b := ⟨h.os, h.tape, h.output, h.size, fun k hk _ _ => h.block k hk⟩
theorem FldAt.kept {w w' : World} {g k : Nat} {tag : Int} {text : Bool} {num : Nat} {bv : Value} (h : FldAt w k tag text num bv) (hk : Kept g g w w') (hne : k ≠ g) : FldAt w' k tag text num bv := (hk.block k (lt_of_heap h) hne hne).trans h
theorem FldAt.frozen {w : World} {k : Nat} {tag : Int} {text : Bool} {num : Nat} {bv : Value} (h : FldAt w k tag text num bv) (j : Nat) : w.frozen? ⟨k, j, none⟩ = false := frozen_of_row _ _ j _ _ h
theorem Kept.past {c k : Nat} {x : Value} {j0 : Nat} {w w3 w5 : World} (h : Kept c c w w3) (ho : w5.os = (w3.setCell ⟨k, j0, none⟩ x).os ∧ w5.tape = (w3.setCell ⟨k, j0, none⟩ x).tape ∧ w5.output = (w3.setCell ⟨k, j0, none⟩ x).output) (hb : ∀ j, j < w.heap.size → w5.heap[j]? = w3.heap[j]?) (hs : w3.heap.size ≤ w5.heap.size) : Kept c c w w5 :=
  ⟨ho.1.trans h.os, ho.2.1.trans h.tape, ho.2.2.trans h.output, Nat.le_trans h.size hs, fun j hj h1 h2 => (hb j hj).trans (h.block j hj h1 h2)⟩
/-- what holds when field is entered: its result has been laid -/
structure Ent (w W0 : World) (l : List Nat) (b off n cap i c : Nat) : Prop where
  cur : CurAt W0 c (some ⟨b, off, none⟩) n cap i
  byt : Bytes W0 (some ⟨b, off, none⟩) l
  res : FldAt W0 w.heap.size 0 false 0 (.slice none 0 0)
  bel : Below w.heap.size w W0
  clt : c < w.heap.size
  kep : Kept c c w W0
theorem ent_of {w : World} {l : List Nat} {b off n cap i c : Nat} (hc : CurAt w c (some ⟨b, off, none⟩) n cap i) (hb : Bytes w (some ⟨b, off, none⟩) l) :
    ∃ W0, w.alloc (.cells #[.int .i64 0, .bool false, .int .u64 0, .slice none 0 0] 48) = W0 ∧ Ent w W0 l b off n cap i c := by
  have hB : Below w.heap.size w (w.alloc (.cells #[.int .i64 0, .bool false, .int .u64 0, .slice none 0 0] 48)) := (Below.refl _ _).alloc (Nat.le_refl _) _
  exact ⟨_, rfl, hc.keep hB, hb.keep hB, FldAt.new w 0 false 0 _, hB, lt_of_heap (show w.heap[c]? = _ from hc), Kept.of_below1 hB⟩
/-- behind a number: the cursor has gone on, all else is as it was -/
theorem Ent.on {w W0 w1 : World} {l : List Nat} {b off n cap i j c : Nat} (h : Ent w W0 l b off n cap i c) (hbc : b ≠ c) (hc : CurAt w1 c (some ⟨b, off, none⟩) n cap j) (hk : Kept c c W0 w1) : Bytes w1 (some ⟨b, off, none⟩) l ∧ FldAt w1 w.heap.size 0 false 0 (.slice none 0 0) ∧ Kept c c w w1 ∧ w.heap.size < w1.heap.size :=
  ⟨hk.bytes h.byt hbc hbc, h.res.kept hk (by have := h.clt; omega), h.kep.chain1 hk, Nat.lt_of_lt_of_le (lt_of_heap h.res) hk.size⟩
set_option maxRecDepth 20000 in
set_option maxHeartbeats 1000000 in
theorem field_bad1 (l : List Nat) (b off n cap i e c : Nat) (ahead : Int) (w : World) (hc : CurAt w c (some ⟨b, off, none⟩) n cap i) (hn : l.length = n) (hb : Bytes w (some ⟨b, off, none⟩) l) (hbc : b ≠ c) (hcap : n ≤ cap) (hl : n ≤ 1024) (hi : i ≤ n) (he : e ≠ 0) (hd : dec 0 0 (l.drop i) = (0, 0, e)) :
    Calls Tryz.prog 55 #[.pointer (some ⟨c, 0, none⟩), .int .i64 ahead] w fun r w' => r = errP e ∧ Kept c c w w' := by
  obtain ⟨W0, hW0, hE⟩ := ent_of hc hb
  have HE : Hid (Ent w W0 l b off n cap i c) := hE
  have HN : Hid (l.length = n) := hn
  have HD : Hid (_) := hd
  have T1 : Hid True := trivial
  clear hc hb hn hE hd
  go_enter Tryz.func55, Tryz.ntmps55
  go_wp2_with (go_at_call 77; refine (num_bad l b off n cap i e c W0 HE.out.cur HN.out HE.out.byt hcap hl hi he HD.out).mono ?_; rintro r w1 ⟨rfl, m, rfl⟩)
  exact body_panic ⟨rfl, HE.out.kep.drewN m⟩
set_option maxRecDepth 20000 in
set_option maxHeartbeats 1000000 in
theorem field_tagA (l : List Nat) (b off n cap i k n1 c : Nat) (ahead : Int) (w : World) (hc : CurAt w c (some ⟨b, off, none⟩) n cap i) (hn : l.length = n) (hb : Bytes w (some ⟨b, off, none⟩) l) (hbc : b ≠ c) (hcap : n ≤ cap) (hl : n ≤ 1024) (hi : i ≤ n) (hd : dec 0 0 (l.drop i) = (k, n1, 0)) (hk : k < 2) (hk2 : k ≤ 18446744073709551615) :
    Calls Tryz.prog 55 #[.pointer (some ⟨c, 0, none⟩), .int .i64 ahead] w fun r w' => r = errP 20 ∧ Kept c c w w' := by
  obtain ⟨W0, hW0, hE⟩ := ent_of hc hb
  have HE : Hid (Ent w W0 l b off n cap i c) := hE
  have HN : Hid (l.length = n) := hn
  have HD : Hid (_) := hd
  have T1 : Hid True := trivial
  clear hc hb hn hE hd
  go_enter Tryz.func55, Tryz.ntmps55
  go_wp2_with (go_at_call 77; clear T1; refine (num_ok l b off n cap i k n1 c W0 HE.out.cur HN.out HE.out.byt hcap hl hi HD.out).mono ?_; rintro r w1 ⟨rfl, hc1, hk1⟩; obtain ⟨hby1, hres1, hkw1, hsz1⟩ := HE.out.on hbc hc1 hk1; have HC1 : Hid (CurAt w1 c (some ⟨b, off, none⟩) n cap (i + n1) ∧ Bytes w1 (some ⟨b, off, none⟩) l ∧ FldAt w1 w.heap.size 0 false 0 (.slice none 0 0) ∧ Kept c c w w1) := ⟨hc1, hby1, hres1, hkw1⟩; clear hc1 hk1 hby1 hres1 hkw1)
  exact body_panic ⟨rfl, HC1.out.2.2.2⟩
set_option maxRecDepth 20000 in
set_option maxHeartbeats 1000000 in
theorem field_tagB (l : List Nat) (b off n cap i k n1 c : Nat) (ahead : Int) (w : World) (hc : CurAt w c (some ⟨b, off, none⟩) n cap i) (hn : l.length = n) (hb : Bytes w (some ⟨b, off, none⟩) l) (hbc : b ≠ c) (hcap : n ≤ cap) (hl : n ≤ 1024) (hi : i ≤ n) (hd : dec 0 0 (l.drop i) = (k, n1, 0)) (hk : 63 < k) (hk2 : k ≤ 18446744073709551615) :
    Calls Tryz.prog 55 #[.pointer (some ⟨c, 0, none⟩), .int .i64 ahead] w fun r w' => r = errP 20 ∧ Kept c c w w' := by
  obtain ⟨W0, hW0, hE⟩ := ent_of hc hb
  have HE : Hid (Ent w W0 l b off n cap i c) := hE
  have HN : Hid (l.length = n) := hn
  have HD : Hid (_) := hd
  have T1 : Hid True := trivial
  clear hc hb hn hE hd
  go_enter Tryz.func55, Tryz.ntmps55
  go_wp2_with (go_at_call 77; clear T1; refine (num_ok l b off n cap i k n1 c W0 HE.out.cur HN.out HE.out.byt hcap hl hi HD.out).mono ?_; rintro r w1 ⟨rfl, hc1, hk1⟩; obtain ⟨hby1, hres1, hkw1, hsz1⟩ := HE.out.on hbc hc1 hk1; have HC1 : Hid (CurAt w1 c (some ⟨b, off, none⟩) n cap (i + n1) ∧ Bytes w1 (some ⟨b, off, none⟩) l ∧ FldAt w1 w.heap.size 0 false 0 (.slice none 0 0) ∧ Kept c c w w1) := ⟨hc1, hby1, hres1, hkw1⟩; clear hc1 hk1 hby1 hres1 hkw1)
  exact body_panic ⟨rfl, HC1.out.2.2.2⟩
set_option maxRecDepth 20000 in
set_option maxHeartbeats 1000000 in
theorem field_ord (l : List Nat) (b off n cap i k n1 c : Nat) (ahead : Int) (w : World) (hc : CurAt w c (some ⟨b, off, none⟩) n cap i) (hn : l.length = n) (hb : Bytes w (some ⟨b, off, none⟩) l) (hbc : b ≠ c) (hcap : n ≤ cap) (hl : n ≤ 1024) (hi : i ≤ n) (hd : dec 0 0 (l.drop i) = (k, n1, 0)) (hk : 2 ≤ k) (hk2 : k ≤ 63) (ho : ((k / 2 : Nat) : Int) ≤ ahead) :
    Calls Tryz.prog 55 #[.pointer (some ⟨c, 0, none⟩), .int .i64 ahead] w fun r w' => r = errP 21 ∧ Kept c c w w' := by
  obtain ⟨W0, hW0, hE⟩ := ent_of hc hb
  have HE : Hid (Ent w W0 l b off n cap i c) := hE
  have HN : Hid (l.length = n) := hn
  have HD : Hid (_) := hd
  have T1 : Hid True := trivial
  clear hc hb hn hE hd
  go_enter Tryz.func55, Tryz.ntmps55
  go_wp2_with (go_at_call 77; clear T1; refine (num_ok l b off n cap i k n1 c W0 HE.out.cur HN.out HE.out.byt hcap hl hi HD.out).mono ?_; rintro r w1 ⟨rfl, hc1, hk1⟩; obtain ⟨hby1, hres1, hkw1, hsz1⟩ := HE.out.on hbc hc1 hk1; have HC1 : Hid (CurAt w1 c (some ⟨b, off, none⟩) n cap (i + n1) ∧ Bytes w1 (some ⟨b, off, none⟩) l ∧ FldAt w1 w.heap.size 0 false 0 (.slice none 0 0) ∧ Kept c c w w1) := ⟨hc1, hby1, hres1, hkw1⟩; clear hc1 hk1 hby1 hres1 hkw1)
  exact body_panic ⟨rfl, HC1.out.2.2.2.chain1 (Kept.of_below1 ((Below.refl _ _).alloc (Nat.le_refl _) _))⟩
/-- behind the first number: f lies in a block of its own -/
structure Mid (w w1 W2 : World) (l : List Nat) (b off n cap j c : Nat) (T : Nat) (p : Bool) : Prop where
  cur : CurAt W2 c (some ⟨b, off, none⟩) n cap j
  byt : Bytes W2 (some ⟨b, off, none⟩) l
  res : FldAt W2 w.heap.size 0 false 0 (.slice none 0 0)
  fld : FldAt W2 w1.heap.size T p 0 (.slice none 0 0)
  kep : Kept c c w W2
  clt : c < w.heap.size
  slt : w.heap.size < w1.heap.size
theorem mid_of {w w1 : World} {l : List Nat} {b off n cap j c T : Nat} {p : Bool} (hc : CurAt w1 c (some ⟨b, off, none⟩) n cap j) (hb : Bytes w1 (some ⟨b, off, none⟩) l) (hr : FldAt w1 w.heap.size 0 false 0 (.slice none 0 0)) (hk : Kept c c w w1) (hclt : c < w.heap.size) :
    ∃ W2, w1.alloc (.cells #[.int .i64 (T : Int), .bool p, .int .u64 0, .slice none 0 0] 48) = W2 ∧ Mid w w1 W2 l b off n cap j c T p := by
  have hB : Below w1.heap.size w1 (w1.alloc (.cells #[.int .i64 (T : Int), .bool p, .int .u64 0, .slice none 0 0] 48)) := (Below.refl _ _).alloc (Nat.le_refl _) _
  exact ⟨_, rfl, hc.keep hB, hb.keep hB, hr.keep hB, FldAt.new w1 T p 0 _, hk.chain1 (Kept.of_below1 hB), hclt, lt_of_heap hr⟩
/-- behind the second number -/
theorem Mid.on {w w1 W2 w3 : World} {l : List Nat} {b off n cap j j2 c T : Nat} {p : Bool} (h : Mid w w1 W2 l b off n cap j c T p) (hbc : b ≠ c) (hc : CurAt w3 c (some ⟨b, off, none⟩) n cap j2) (hk : Kept c c W2 w3) : Mid w w1 w3 l b off n cap j2 c T p :=
  ⟨hc, hk.bytes h.byt hbc hbc, h.res.kept hk (by have := h.clt; omega), h.fld.kept hk (by have := h.clt; have := h.slt; omega), h.kep.chain1 hk, h.clt, h.slt⟩
set_option maxRecDepth 20000 in
set_option maxHeartbeats 1000000 in
theorem field_bad2N (l : List Nat) (b off n cap i k n1 T e c : Nat) (ahead : Int) (w : World) (hc : CurAt w c (some ⟨b, off, none⟩) n cap i) (hn : l.length = n) (hb : Bytes w (some ⟨b, off, none⟩) l) (hbc : b ≠ c) (hcap : n ≤ cap) (hl : n ≤ 1024) (hi : i ≤ n) (hd : dec 0 0 (l.drop i) = (k, n1, 0)) (hTk : (k : Int) / 2 = (T : Int)) (hpk : ((k : Int) % 2 == 1) = false) (hT1 : 1 ≤ T) (hT31 : T ≤ 31) (hah : ahead < (T : Int)) (hi2 : i + n1 ≤ n) (he : e ≠ 0) (hd2 : dec 0 0 (l.drop (i + n1)) = (0, 0, e)) :
    Calls Tryz.prog 55 #[.pointer (some ⟨c, 0, none⟩), .int .i64 ahead] w fun r w' => r = errP e ∧ Kept c c w w' := by
  obtain ⟨W0, hW0, hE⟩ := ent_of hc hb
  have HE : Hid (Ent w W0 l b off n cap i c) := hE
  have HN : Hid (l.length = n) := hn
  have HD : Hid (_) := hd
  have T1 : Hid True := trivial
  have hT1I : (1 : Int) ≤ (T : Int) := by omega
  have hT31I : (T : Int) ≤ 31 := by omega
  have hna : ¬ (T : Int) ≤ ahead := by omega
  have T2 : Hid True := trivial
  have HD2 : Hid (_) := hd2
  have hkk : (k : Int) ≤ 18446744073709551615 := by omega
  clear hc hb hn hE hd hd2
  go_enter Tryz.func55, Tryz.ntmps55
  go_wp2_with (first
    | (go_at_call 77; clear T1; refine (num_ok l b off n cap i k n1 c W0 HE.out.cur HN.out HE.out.byt hcap hl hi HD.out).mono ?_; rintro r w1 ⟨rfl, hc1, hk1⟩; obtain ⟨hby1, hres1, hkw1, hsz1⟩ := HE.out.on hbc hc1 hk1; have HC1 : Hid (CurAt w1 c (some ⟨b, off, none⟩) n cap (i + n1) ∧ Bytes w1 (some ⟨b, off, none⟩) l ∧ FldAt w1 w.heap.size 0 false 0 (.slice none 0 0) ∧ Kept c c w w1) := ⟨hc1, hby1, hres1, hkw1⟩; obtain ⟨W2, hW2, hM⟩ := mid_of (T := T) (p := false) hc1 hby1 hres1 hkw1 HE.out.clt; have HM : Hid (Mid w w1 W2 l b off n cap (i + n1) c T false) := hM; have HW2 : Hid (_ = W2) := hW2; clear hc1 hk1 hby1 hres1 hkw1 hM HC1 hW2)
    | (go_at_call 77; rw [HW2.out]; refine (num_bad l b off n cap (i + n1) e c W2 HM.out.cur HN.out HM.out.byt hcap hl hi2 he HD2.out).mono ?_; rintro r w3 ⟨rfl, m, rfl⟩))
  exact body_panic ⟨rfl, HM.out.kep.drewN m⟩
set_option maxRecDepth 20000 in
set_option maxHeartbeats 1000000 in
theorem field_zeroN (l : List Nat) (b off n cap i k n1 T m c : Nat) (ahead : Int) (w : World) (hc : CurAt w c (some ⟨b, off, none⟩) n cap i) (hn : l.length = n) (hb : Bytes w (some ⟨b, off, none⟩) l) (hbc : b ≠ c) (hcap : n ≤ cap) (hl : n ≤ 1024) (hi : i ≤ n) (hd : dec 0 0 (l.drop i) = (k, n1, 0)) (hTk : (k : Int) / 2 = (T : Int)) (hpk : ((k : Int) % 2 == 1) = false) (hT1 : 1 ≤ T) (hT31 : T ≤ 31) (hah : ahead < (T : Int)) (hi2 : i + n1 ≤ n) (hd2 : dec 0 0 (l.drop (i + n1)) = (0, m, 0)) :
    Calls Tryz.prog 55 #[.pointer (some ⟨c, 0, none⟩), .int .i64 ahead] w fun r w' => r = errP 22 ∧ Kept c c w w' := by
  obtain ⟨W0, hW0, hE⟩ := ent_of hc hb
  have HE : Hid (Ent w W0 l b off n cap i c) := hE
  have HN : Hid (l.length = n) := hn
  have HD : Hid (_) := hd
  have T1 : Hid True := trivial
  have hT1I : (1 : Int) ≤ (T : Int) := by omega
  have hT31I : (T : Int) ≤ 31 := by omega
  have hna : ¬ (T : Int) ≤ ahead := by omega
  have T2 : Hid True := trivial
  have HD2 : Hid (_) := hd2
  have hkk : (k : Int) ≤ 18446744073709551615 := by omega
  clear hc hb hn hE hd hd2
  go_enter Tryz.func55, Tryz.ntmps55
  go_wp2_with (first
    | (go_at_call 77; clear T1; refine (num_ok l b off n cap i k n1 c W0 HE.out.cur HN.out HE.out.byt hcap hl hi HD.out).mono ?_; rintro r w1 ⟨rfl, hc1, hk1⟩; obtain ⟨hby1, hres1, hkw1, hsz1⟩ := HE.out.on hbc hc1 hk1; have HC1 : Hid (CurAt w1 c (some ⟨b, off, none⟩) n cap (i + n1) ∧ Bytes w1 (some ⟨b, off, none⟩) l ∧ FldAt w1 w.heap.size 0 false 0 (.slice none 0 0) ∧ Kept c c w w1) := ⟨hc1, hby1, hres1, hkw1⟩; obtain ⟨W2, hW2, hM⟩ := mid_of (T := T) (p := false) hc1 hby1 hres1 hkw1 HE.out.clt; have HM : Hid (Mid w w1 W2 l b off n cap (i + n1) c T false) := hM; have HW2 : Hid (_ = W2) := hW2; clear hc1 hk1 hby1 hres1 hkw1 hM HC1 hW2)
    | (go_at_call 77; rw [HW2.out]; refine (num_ok l b off n cap (i + n1) 0 m c W2 HM.out.cur HN.out HM.out.byt hcap hl hi2 HD2.out).mono ?_; rintro r w3 ⟨rfl, hc3, hk3⟩; have HM3 : Hid (Mid w w1 w3 l b off n cap (i + n1 + m) c T false) := HM.out.on hbc hc3 hk3; clear hc3 hk3))
  exact body_panic ⟨rfl, HM3.out.kep⟩
set_option maxRecDepth 20000 in
set_option maxHeartbeats 1000000 in
theorem field_bad2T (l : List Nat) (b off n cap i k n1 T e c : Nat) (ahead : Int) (w : World) (hc : CurAt w c (some ⟨b, off, none⟩) n cap i) (hn : l.length = n) (hb : Bytes w (some ⟨b, off, none⟩) l) (hbc : b ≠ c) (hcap : n ≤ cap) (hl : n ≤ 1024) (hi : i ≤ n) (hd : dec 0 0 (l.drop i) = (k, n1, 0)) (hTk : (k : Int) / 2 = (T : Int)) (hpk : ((k : Int) % 2 == 1) = true) (hT1 : 1 ≤ T) (hT31 : T ≤ 31) (hah : ahead < (T : Int)) (hi2 : i + n1 ≤ n) (he : e ≠ 0) (hd2 : dec 0 0 (l.drop (i + n1)) = (0, 0, e)) :
    Calls Tryz.prog 55 #[.pointer (some ⟨c, 0, none⟩), .int .i64 ahead] w fun r w' => r = errP e ∧ Kept c c w w' := by
  obtain ⟨W0, hW0, hE⟩ := ent_of hc hb
  have HE : Hid (Ent w W0 l b off n cap i c) := hE
  have HN : Hid (l.length = n) := hn
  have HD : Hid (_) := hd
  have T1 : Hid True := trivial
  have hT1I : (1 : Int) ≤ (T : Int) := by omega
  have hT31I : (T : Int) ≤ 31 := by omega
  have hna : ¬ (T : Int) ≤ ahead := by omega
  have T2 : Hid True := trivial
  have HD2 : Hid (_) := hd2
  have hkk : (k : Int) ≤ 18446744073709551615 := by omega
  clear hc hb hn hE hd hd2
  go_enter Tryz.func55, Tryz.ntmps55
  go_wp2_with (first
    | (go_at_call 77; clear T1; refine (num_ok l b off n cap i k n1 c W0 HE.out.cur HN.out HE.out.byt hcap hl hi HD.out).mono ?_; rintro r w1 ⟨rfl, hc1, hk1⟩; obtain ⟨hby1, hres1, hkw1, hsz1⟩ := HE.out.on hbc hc1 hk1; have HC1 : Hid (CurAt w1 c (some ⟨b, off, none⟩) n cap (i + n1) ∧ Bytes w1 (some ⟨b, off, none⟩) l ∧ FldAt w1 w.heap.size 0 false 0 (.slice none 0 0) ∧ Kept c c w w1) := ⟨hc1, hby1, hres1, hkw1⟩; obtain ⟨W2, hW2, hM⟩ := mid_of (T := T) (p := true) hc1 hby1 hres1 hkw1 HE.out.clt; have HM : Hid (Mid w w1 W2 l b off n cap (i + n1) c T true) := hM; have HW2 : Hid (_ = W2) := hW2; clear hc1 hk1 hby1 hres1 hkw1 hM HC1 hW2)
    | (go_at_call 77; rw [HW2.out]; refine (num_bad l b off n cap (i + n1) e c W2 HM.out.cur HN.out HM.out.byt hcap hl hi2 he HD2.out).mono ?_; rintro r w3 ⟨rfl, m, rfl⟩))
  exact body_panic ⟨rfl, HM.out.kep.drewN m⟩
set_option maxRecDepth 20000 in
set_option maxHeartbeats 1000000 in
theorem field_zeroT (l : List Nat) (b off n cap i k n1 T m c : Nat) (ahead : Int) (w : World) (hc : CurAt w c (some ⟨b, off, none⟩) n cap i) (hn : l.length = n) (hb : Bytes w (some ⟨b, off, none⟩) l) (hbc : b ≠ c) (hcap : n ≤ cap) (hl : n ≤ 1024) (hi : i ≤ n) (hd : dec 0 0 (l.drop i) = (k, n1, 0)) (hTk : (k : Int) / 2 = (T : Int)) (hpk : ((k : Int) % 2 == 1) = true) (hT1 : 1 ≤ T) (hT31 : T ≤ 31) (hah : ahead < (T : Int)) (hi2 : i + n1 ≤ n) (hd2 : dec 0 0 (l.drop (i + n1)) = (0, m, 0)) :
    Calls Tryz.prog 55 #[.pointer (some ⟨c, 0, none⟩), .int .i64 ahead] w fun r w' => r = errP 22 ∧ Kept c c w w' := by
  obtain ⟨W0, hW0, hE⟩ := ent_of hc hb
  have HE : Hid (Ent w W0 l b off n cap i c) := hE
  have HN : Hid (l.length = n) := hn
  have HD : Hid (_) := hd
  have T1 : Hid True := trivial
  have hT1I : (1 : Int) ≤ (T : Int) := by omega
  have hT31I : (T : Int) ≤ 31 := by omega
  have hna : ¬ (T : Int) ≤ ahead := by omega
  have T2 : Hid True := trivial
  have HD2 : Hid (_) := hd2
  have hkk : (k : Int) ≤ 18446744073709551615 := by omega
  clear hc hb hn hE hd hd2
  go_enter Tryz.func55, Tryz.ntmps55
  go_wp2_with (first
    | (go_at_call 77; clear T1; refine (num_ok l b off n cap i k n1 c W0 HE.out.cur HN.out HE.out.byt hcap hl hi HD.out).mono ?_; rintro r w1 ⟨rfl, hc1, hk1⟩; obtain ⟨hby1, hres1, hkw1, hsz1⟩ := HE.out.on hbc hc1 hk1; have HC1 : Hid (CurAt w1 c (some ⟨b, off, none⟩) n cap (i + n1) ∧ Bytes w1 (some ⟨b, off, none⟩) l ∧ FldAt w1 w.heap.size 0 false 0 (.slice none 0 0) ∧ Kept c c w w1) := ⟨hc1, hby1, hres1, hkw1⟩; obtain ⟨W2, hW2, hM⟩ := mid_of (T := T) (p := true) hc1 hby1 hres1 hkw1 HE.out.clt; have HM : Hid (Mid w w1 W2 l b off n cap (i + n1) c T true) := hM; have HW2 : Hid (_ = W2) := hW2; clear hc1 hk1 hby1 hres1 hkw1 hM HC1 hW2)
    | (go_at_call 77; rw [HW2.out]; refine (num_ok l b off n cap (i + n1) 0 m c W2 HM.out.cur HN.out HM.out.byt hcap hl hi2 HD2.out).mono ?_; rintro r w3 ⟨rfl, hc3, hk3⟩; have HM3 : Hid (Mid w w1 w3 l b off n cap (i + n1 + m) c T true) := HM.out.on hbc hc3 hk3; clear hc3 hk3))
  exact body_panic ⟨rfl, HM3.out.kep⟩
set_option maxRecDepth 20000 in
set_option maxHeartbeats 1000000 in
theorem field_num (l : List Nat) (b off n cap i k n1 T u m c : Nat) (ahead : Int) (w : World) (hc : CurAt w c (some ⟨b, off, none⟩) n cap i) (hn : l.length = n) (hb : Bytes w (some ⟨b, off, none⟩) l) (hbc : b ≠ c) (hcap : n ≤ cap) (hl : n ≤ 1024) (hi : i ≤ n) (hd : dec 0 0 (l.drop i) = (k, n1, 0)) (hTk : (k : Int) / 2 = (T : Int)) (hpk : ((k : Int) % 2 == 1) = false) (hT1 : 1 ≤ T) (hT31 : T ≤ 31) (hah : ahead < (T : Int)) (hi2 : i + n1 ≤ n) (hu : u ≠ 0) (hu2 : u ≤ 18446744073709551615) (hd2 : dec 0 0 (l.drop (i + n1)) = (u, m, 0)) :
    Calls Tryz.prog 55 #[.pointer (some ⟨c, 0, none⟩), .int .i64 ahead] w fun r w' => r = .returned (FV T false u (.slice none 0 0)) ∧ CurAt w' c (some ⟨b, off, none⟩) n cap (i + n1 + m) ∧ Kept c c w w' := by
  obtain ⟨W0, hW0, hE⟩ := ent_of hc hb
  have HE : Hid (Ent w W0 l b off n cap i c) := hE
  have HN : Hid (l.length = n) := hn
  have HD : Hid (_) := hd
  have T1 : Hid True := trivial
  have hT1I : (1 : Int) ≤ (T : Int) := by omega
  have hT31I : (T : Int) ≤ 31 := by omega
  have hna : ¬ (T : Int) ≤ ahead := by omega
  have T2 : Hid True := trivial
  have HD2 : Hid (_) := hd2
  have hkk : (k : Int) ≤ 18446744073709551615 := by omega
  clear hc hb hn hE hd hd2
  have hub : ((u : Int) == 0) = false := by simp; omega
  go_enter Tryz.func55, Tryz.ntmps55
  go_wp2_with (first
    | (go_at_call 77; clear T1; refine (num_ok l b off n cap i k n1 c W0 HE.out.cur HN.out HE.out.byt hcap hl hi HD.out).mono ?_; rintro r w1 ⟨rfl, hc1, hk1⟩; obtain ⟨hby1, hres1, hkw1, hsz1⟩ := HE.out.on hbc hc1 hk1; have HC1 : Hid (CurAt w1 c (some ⟨b, off, none⟩) n cap (i + n1) ∧ Bytes w1 (some ⟨b, off, none⟩) l ∧ FldAt w1 w.heap.size 0 false 0 (.slice none 0 0) ∧ Kept c c w w1) := ⟨hc1, hby1, hres1, hkw1⟩; obtain ⟨W2, hW2, hM⟩ := mid_of (T := T) (p := false) hc1 hby1 hres1 hkw1 HE.out.clt; have HM : Hid (Mid w w1 W2 l b off n cap (i + n1) c T false) := hM; have HW2 : Hid (_ = W2) := hW2; clear hc1 hk1 hby1 hres1 hkw1 hM HC1 hW2)
    | (go_at_call 77; rw [HW2.out]; refine (num_ok l b off n cap (i + n1) u m c W2 HM.out.cur HN.out HM.out.byt hcap hl hi2 HD2.out).mono ?_; rintro r w3 ⟨rfl, hc3, hk3⟩; have hM3 := HM.out.on hbc hc3 hk3; have HM3 : Hid (Mid w w1 w3 l b off n cap (i + n1 + m) c T false) := hM3; have hf3 := hM3.fld; obtain ⟨g0, g1, g2, g3⟩ := hf3.cells; have z2 := hf3.frozen 2; have z3 := hf3.frozen 3; have hne : ¬ w1.heap.size = w.heap.size := (by have := hM3.slt; omega); clear hc3 hk3 hM3 hf3)
    | ((with_reducible refine guard_load 48 ?_); refine wpList_load_fld rfl _ rfl (HM3.out.fld.setNum u) rfl ?_)
    | ((with_reducible refine guard_store 48 ?_); refine wpList_store_fld rfl _ _ rfl (k := w.heap.size) (num2 := u) (show FldAt (w3.setCell ⟨w1.heap.size, 2, none⟩ (.int .u64 (u : Int))) w.heap.size 0 false 0 (.slice none 0 0) from (heap_setCell_other w3 ⟨w1.heap.size, 2, none⟩ w.heap.size _ (fun h => hne h.symm)).trans HM3.out.res) rfl rfl rfl ?_; intro w5 hf5 hos5 hk5 hs5))
  exact bodyPost_ret (results_fld rfl _ _ _ rfl hf5) rfl ⟨rfl, (hk5 c (by have := HM3.out.clt; omega)).trans ((heap_setCell_other w3 ⟨w1.heap.size, 2, none⟩ c _ (by have := HM3.out.clt; have := HM3.out.slt; show c ≠ w1.heap.size; omega)).trans HM3.out.cur), HM3.out.kep.past hos5 (fun j hj => (hk5 j (by omega)).trans (heap_setCell_other w3 ⟨w1.heap.size, 2, none⟩ j _ (by have := HM3.out.slt; show j ≠ w1.heap.size; omega))) (by rw [hs5]; simp)⟩
set_option maxRecDepth 20000 in
set_option maxHeartbeats 1000000 in
theorem field_long (l : List Nat) (b off n cap i k n1 T u m c : Nat) (ahead : Int) (w : World) (hc : CurAt w c (some ⟨b, off, none⟩) n cap i) (hn : l.length = n) (hb : Bytes w (some ⟨b, off, none⟩) l) (hbc : b ≠ c) (hcap : n ≤ cap) (hl : n ≤ 1024) (hi : i ≤ n) (hd : dec 0 0 (l.drop i) = (k, n1, 0)) (hTk : (k : Int) / 2 = (T : Int)) (hpk : ((k : Int) % 2 == 1) = true) (hT1 : 1 ≤ T) (hT31 : T ≤ 31) (hah : ahead < (T : Int)) (hi2 : i + n1 ≤ n) (hu : u ≠ 0) (hu2 : u ≤ 18446744073709551615) (hd2 : dec 0 0 (l.drop (i + n1)) = (u, m, 0)) (hi3 : i + n1 + m ≤ n) (h200 : 200 < u) :
    Calls Tryz.prog 55 #[.pointer (some ⟨c, 0, none⟩), .int .i64 ahead] w fun r w' => r = errP 23 ∧ Kept c c w w' := by
  obtain ⟨W0, hW0, hE⟩ := ent_of hc hb
  have HE : Hid (Ent w W0 l b off n cap i c) := hE
  have HN : Hid (l.length = n) := hn
  have HD : Hid (_) := hd
  have T1 : Hid True := trivial
  have hT1I : (1 : Int) ≤ (T : Int) := by omega
  have hT31I : (T : Int) ≤ 31 := by omega
  have hna : ¬ (T : Int) ≤ ahead := by omega
  have T2 : Hid True := trivial
  have HD2 : Hid (_) := hd2
  have hkk : (k : Int) ≤ 18446744073709551615 := by omega
  clear hc hb hn hE hd hd2
  have hub : ((u : Int) == 0) = false := by simp; omega
  go_enter Tryz.func55, Tryz.ntmps55
  go_wp2_with (first
    | (go_at_call 77; clear T1; refine (num_ok l b off n cap i k n1 c W0 HE.out.cur HN.out HE.out.byt hcap hl hi HD.out).mono ?_; rintro r w1 ⟨rfl, hc1, hk1⟩; obtain ⟨hby1, hres1, hkw1, hsz1⟩ := HE.out.on hbc hc1 hk1; have HC1 : Hid (CurAt w1 c (some ⟨b, off, none⟩) n cap (i + n1) ∧ Bytes w1 (some ⟨b, off, none⟩) l ∧ FldAt w1 w.heap.size 0 false 0 (.slice none 0 0) ∧ Kept c c w w1) := ⟨hc1, hby1, hres1, hkw1⟩; obtain ⟨W2, hW2, hM⟩ := mid_of (T := T) (p := true) hc1 hby1 hres1 hkw1 HE.out.clt; have HM : Hid (Mid w w1 W2 l b off n cap (i + n1) c T true) := hM; have HW2 : Hid (_ = W2) := hW2; clear hc1 hk1 hby1 hres1 hkw1 hM HC1 hW2)
    | (go_at_call 77; rw [HW2.out]; refine (num_ok l b off n cap (i + n1) u m c W2 HM.out.cur HN.out HM.out.byt hcap hl hi2 HD2.out).mono ?_; rintro r w3 ⟨rfl, hc3, hk3⟩; have hM3 := HM.out.on hbc hc3 hk3; have HM3 : Hid (Mid w w1 w3 l b off n cap (i + n1 + m) c T true) := hM3; have hf3 := hM3.fld; obtain ⟨g0, g1, g2, g3⟩ := hf3.cells; have hne : ¬ w1.heap.size = w.heap.size := (by have := hM3.slt; omega); clear hc3 hk3 hM3 hf3)
    | (go_at_call 78; refine (text_long b off n cap (i + n1 + m) u c w3 HM3.out.cur h200 hu2).mono ?_; rintro r w5 ⟨rfl, rfl⟩))
  exact body_panic ⟨rfl, HM3.out.kep⟩
set_option maxRecDepth 20000 in
set_option maxHeartbeats 1000000 in
theorem field_short (l : List Nat) (b off n cap i k n1 T u m c : Nat) (ahead : Int) (w : World) (hc : CurAt w c (some ⟨b, off, none⟩) n cap i) (hn : l.length = n) (hb : Bytes w (some ⟨b, off, none⟩) l) (hbc : b ≠ c) (hcap : n ≤ cap) (hl : n ≤ 1024) (hi : i ≤ n) (hd : dec 0 0 (l.drop i) = (k, n1, 0)) (hTk : (k : Int) / 2 = (T : Int)) (hpk : ((k : Int) % 2 == 1) = true) (hT1 : 1 ≤ T) (hT31 : T ≤ 31) (hah : ahead < (T : Int)) (hi2 : i + n1 ≤ n) (hu : u ≠ 0) (hu2 : u ≤ 18446744073709551615) (hd2 : dec 0 0 (l.drop (i + n1)) = (u, m, 0)) (hi3 : i + n1 + m ≤ n) (h200 : ¬ 200 < u) (hsh : n < i + n1 + m + u) :
    Calls Tryz.prog 55 #[.pointer (some ⟨c, 0, none⟩), .int .i64 ahead] w fun r w' => r = errP 10 ∧ Kept c c w w' := by
  obtain ⟨W0, hW0, hE⟩ := ent_of hc hb
  have HE : Hid (Ent w W0 l b off n cap i c) := hE
  have HN : Hid (l.length = n) := hn
  have HD : Hid (_) := hd
  have T1 : Hid True := trivial
  have hT1I : (1 : Int) ≤ (T : Int) := by omega
  have hT31I : (T : Int) ≤ 31 := by omega
  have hna : ¬ (T : Int) ≤ ahead := by omega
  have T2 : Hid True := trivial
  have HD2 : Hid (_) := hd2
  have hkk : (k : Int) ≤ 18446744073709551615 := by omega
  clear hc hb hn hE hd hd2
  have hub : ((u : Int) == 0) = false := by simp; omega
  go_enter Tryz.func55, Tryz.ntmps55
  go_wp2_with (first
    | (go_at_call 77; clear T1; refine (num_ok l b off n cap i k n1 c W0 HE.out.cur HN.out HE.out.byt hcap hl hi HD.out).mono ?_; rintro r w1 ⟨rfl, hc1, hk1⟩; obtain ⟨hby1, hres1, hkw1, hsz1⟩ := HE.out.on hbc hc1 hk1; have HC1 : Hid (CurAt w1 c (some ⟨b, off, none⟩) n cap (i + n1) ∧ Bytes w1 (some ⟨b, off, none⟩) l ∧ FldAt w1 w.heap.size 0 false 0 (.slice none 0 0) ∧ Kept c c w w1) := ⟨hc1, hby1, hres1, hkw1⟩; obtain ⟨W2, hW2, hM⟩ := mid_of (T := T) (p := true) hc1 hby1 hres1 hkw1 HE.out.clt; have HM : Hid (Mid w w1 W2 l b off n cap (i + n1) c T true) := hM; have HW2 : Hid (_ = W2) := hW2; clear hc1 hk1 hby1 hres1 hkw1 hM HC1 hW2)
    | (go_at_call 77; rw [HW2.out]; refine (num_ok l b off n cap (i + n1) u m c W2 HM.out.cur HN.out HM.out.byt hcap hl hi2 HD2.out).mono ?_; rintro r w3 ⟨rfl, hc3, hk3⟩; have hM3 := HM.out.on hbc hc3 hk3; have HM3 : Hid (Mid w w1 w3 l b off n cap (i + n1 + m) c T true) := hM3; have hf3 := hM3.fld; obtain ⟨g0, g1, g2, g3⟩ := hf3.cells; have hne : ¬ w1.heap.size = w.heap.size := (by have := hM3.slt; omega); clear hc3 hk3 hM3 hf3)
    | (go_at_call 78; refine (text_short b off n cap (i + n1 + m) u c w3 HM3.out.cur h200 hl hi3 hsh).mono ?_; rintro r w5 ⟨rfl, mm, rfl⟩))
  exact body_panic ⟨rfl, HM3.out.kep.drewN mm⟩
set_option maxRecDepth 20000 in
set_option maxHeartbeats 1000000 in
theorem field_text (l : List Nat) (b off n cap i k n1 T u m c : Nat) (ahead : Int) (w : World) (hc : CurAt w c (some ⟨b, off, none⟩) n cap i) (hn : l.length = n) (hb : Bytes w (some ⟨b, off, none⟩) l) (hbc : b ≠ c) (hcap : n ≤ cap) (hl : n ≤ 1024) (hi : i ≤ n) (hd : dec 0 0 (l.drop i) = (k, n1, 0)) (hTk : (k : Int) / 2 = (T : Int)) (hpk : ((k : Int) % 2 == 1) = true) (hT1 : 1 ≤ T) (hT31 : T ≤ 31) (hah : ahead < (T : Int)) (hi2 : i + n1 ≤ n) (hu : u ≠ 0) (hu2 : u ≤ 18446744073709551615) (hd2 : dec 0 0 (l.drop (i + n1)) = (u, m, 0)) (hi3 : i + n1 + m ≤ n) (h200 : ¬ 200 < u) (hsh : i + n1 + m + u ≤ n) :
    Calls Tryz.prog 55 #[.pointer (some ⟨c, 0, none⟩), .int .i64 ahead] w fun r w' => ∃ bv, r = .returned (FV T true 0 bv) ∧ Own w' w.heap.size bv ((l.drop (i + n1 + m)).take u) ∧ CurAt w' c (some ⟨b, off, none⟩) n cap (i + n1 + m + u) ∧ Kept c c w w' := by
  obtain ⟨W0, hW0, hE⟩ := ent_of hc hb
  have HE : Hid (Ent w W0 l b off n cap i c) := hE
  have HN : Hid (l.length = n) := hn
  have HD : Hid (_) := hd
  have T1 : Hid True := trivial
  have hT1I : (1 : Int) ≤ (T : Int) := by omega
  have hT31I : (T : Int) ≤ 31 := by omega
  have hna : ¬ (T : Int) ≤ ahead := by omega
  have T2 : Hid True := trivial
  have HD2 : Hid (_) := hd2
  have hkk : (k : Int) ≤ 18446744073709551615 := by omega
  clear hc hb hn hE hd hd2
  have hub : ((u : Int) == 0) = false := by simp; omega
  go_enter Tryz.func55, Tryz.ntmps55
  go_wp2_with (first
    | (go_at_call 77; clear T1; refine (num_ok l b off n cap i k n1 c W0 HE.out.cur HN.out HE.out.byt hcap hl hi HD.out).mono ?_; rintro r w1 ⟨rfl, hc1, hk1⟩; obtain ⟨hby1, hres1, hkw1, hsz1⟩ := HE.out.on hbc hc1 hk1; have HC1 : Hid (CurAt w1 c (some ⟨b, off, none⟩) n cap (i + n1) ∧ Bytes w1 (some ⟨b, off, none⟩) l ∧ FldAt w1 w.heap.size 0 false 0 (.slice none 0 0) ∧ Kept c c w w1) := ⟨hc1, hby1, hres1, hkw1⟩; obtain ⟨W2, hW2, hM⟩ := mid_of (T := T) (p := true) hc1 hby1 hres1 hkw1 HE.out.clt; have HM : Hid (Mid w w1 W2 l b off n cap (i + n1) c T true) := hM; have HW2 : Hid (_ = W2) := hW2; clear hc1 hk1 hby1 hres1 hkw1 hM HC1 hW2)
    | (go_at_call 77; rw [HW2.out]; refine (num_ok l b off n cap (i + n1) u m c W2 HM.out.cur HN.out HM.out.byt hcap hl hi2 HD2.out).mono ?_; rintro r w3 ⟨rfl, hc3, hk3⟩; have hM3 := HM.out.on hbc hc3 hk3; have HM3 : Hid (Mid w w1 w3 l b off n cap (i + n1 + m) c T true) := hM3; have hf3 := hM3.fld; obtain ⟨g0, g1, g2, g3⟩ := hf3.cells; have hne : ¬ w1.heap.size = w.heap.size := (by have := hM3.slt; omega); clear hc3 hk3 hM3 hf3)
    | (go_at_call 78; refine (text_ok l b off n cap (i + n1 + m) u c w3 HM3.out.cur HN.out HM3.out.byt hcap h200 (by omega) hl hsh).mono ?_; rintro r w5 ⟨v, rfl, ho5, hc5, hk5⟩; obtain ⟨a5, cap5, rfl, _, _, _, _⟩ := ho5.shape; have hM5 := HM3.out.on hbc hc5 hk5; have HM5 : Hid (Mid w w1 w5 l b off n cap (i + n1 + m + u) c T true) := hM5; obtain ⟨_, _, _, q3⟩ := hM5.fld.cells; have z3 := hM5.fld.frozen 3; have HO5 : Hid (Own w5 w3.heap.size _ ((l.drop (i + n1 + m)).take u)) := ho5; have HS5 : Hid (w1.heap.size < w3.heap.size) := lt_of_heap HM3.out.fld; clear hM5 ho5 hc5 hk5)
    | ((with_reducible refine guard_load 48 ?_); refine wpList_load_fld rfl _ rfl (HM5.out.fld.setBytes _) rfl ?_)
    | ((with_reducible refine guard_store 48 ?_); refine wpList_store_fld rfl _ _ rfl (k := w.heap.size) (num2 := 0) ((heap_setCell_other w5 ⟨w1.heap.size, 3, none⟩ w.heap.size _ (fun h => hne h.symm)).trans HM5.out.res) rfl rfl rfl ?_; intro w6 hf6 hos6 hk6 hs6))
  refine bodyPost_ret (results_fld rfl _ _ _ rfl hf6) rfl ⟨_, rfl, ⟨HO5.out.1, ?_⟩, (hk6 c (by have := HM5.out.clt; omega)).trans ((heap_setCell_other w5 ⟨w1.heap.size, 3, none⟩ c _ (by have := HM5.out.clt; have := HM5.out.slt; show c ≠ w1.heap.size; omega)).trans HM5.out.cur), HM5.out.kep.past hos6 (fun j hj => (hk6 j (by omega)).trans (heap_setCell_other w5 ⟨w1.heap.size, 3, none⟩ j _ (by have := HM5.out.slt; show j ≠ w1.heap.size; omega))) (by rw [hs6]; simp)⟩
  have hmo := own_same (w' := w6) HO5.out.2 (fun k (hk : w3.heap.size ≤ k) => (hk6 k (by have := HM5.out.slt; have := HS5.out; omega)).trans (heap_setCell_other w5 ⟨w1.heap.size, 3, none⟩ k _ (by have := HS5.out; show k ≠ w1.heap.size; omega)))
  rw [show min u (l.length - (i + n1 + m)) = ((l.drop (i + n1 + m)).take u).length from by simp]
  refine World.ownsRow.mono (base' := w.heap.size) hmo ?_
  have := HM5.out.slt; have := HS5.out; omega
end Go.Proofs.YtfcgcpfckbmgnaaGreat
namespace Go.Proofs.YtfcgcpfckbmgnaaGreat
open Go.ChangeShapes Go.WideShapes Go.ChangeAt Go.RowKit
set_option linter.unusedVariables false
theorem own_nil (w : World) (base : Nat) : Own w base (.slice none 0 0) [] := ⟨by simp, World.ownsRow_nil w base _ 1⟩
theorem field_any (l : List Nat) (b off n cap i c : Nat) (ahead : Int) (w : World) (hc : CurAt w c (some ⟨b, off, none⟩) n cap i) (hn : l.length = n) (hb : Bytes w (some ⟨b, off, none⟩) l) (hbc : b ≠ c) (hcap : n ≤ cap) (hl : n ≤ 1024) (hi : i ≤ n) :
    Calls Tryz.prog 55 #[.pointer (some ⟨c, 0, none⟩), .int .i64 ahead] w fun r w' =>
      ((∃ F sz bv, next (l.drop i) ahead = (F, sz, 0) ∧ r = .returned (FV F.tag F.text F.num bv) ∧ Own w' w.heap.size bv F.bytes ∧ CurAt w' c (some ⟨b, off, none⟩) n cap (i + sz)) ∨ (∃ e : Nat, e ≠ 0 ∧ (next (l.drop i) ahead).2.2 = e ∧ r = errP e)) ∧ Kept c c w w' := by
  have hmem : ∀ j, ∀ x ∈ l.drop j, x < 256 := fun j x hx => hb.mem x (List.mem_of_mem_drop hx)
  rcases hd : dec 0 0 (l.drop i) with ⟨k, n1, e1⟩
  by_cases he1 : e1 = 0
  · subst he1
    have d1 := vdec_form (l.drop i) (hmem i) (by rw [hd])
    rw [hd] at d1
    simp only [List.length_drop, hn] at d1
    obtain ⟨a1, a2, a3, a4, a5⟩ := d1
    rcases hd2 : dec 0 0 (l.drop (i + n1)) with ⟨u, m, e2⟩
    have hd2' : dec 0 0 ((l.drop i).drop n1) = (u, m, e2) := by rw [List.drop_drop]; exact hd2
    have hx := next_two (l.drop i) ahead k n1 u m e2 hd hd2'
    unfold nextR at hx
    by_cases c1 : k < 2 ∨ 63 < k
    · rw [if_pos c1] at hx
      have he : (next (l.drop i) ahead).2.2 = 20 := by rw [hx]; rfl
      rcases c1 with c1 | c1
      · exact (field_tagA l b off n cap i k n1 c ahead w hc hn hb hbc hcap hl hi hd c1 a4).mono fun _ _ ⟨h1, h2⟩ => ⟨.inr ⟨20, by omega, he, h1⟩, h2⟩
      · exact (field_tagB l b off n cap i k n1 c ahead w hc hn hb hbc hcap hl hi hd c1 a4).mono fun _ _ ⟨h1, h2⟩ => ⟨.inr ⟨20, by omega, he, h1⟩, h2⟩
    rw [if_neg c1] at hx
    by_cases c2 : ((k / 2 : Nat) : Int) ≤ ahead
    · rw [if_pos c2] at hx
      have he : (next (l.drop i) ahead).2.2 = 21 := by rw [hx]; rfl
      exact (field_ord l b off n cap i k n1 c ahead w hc hn hb hbc hcap hl hi hd (by omega) (by omega) c2).mono fun _ _ ⟨h1, h2⟩ => ⟨.inr ⟨21, by omega, he, h1⟩, h2⟩
    rw [if_neg c2] at hx
    obtain ⟨T, hT⟩ : ∃ T, k / 2 = T := ⟨_, rfl⟩
    have hTk : (k : Int) / 2 = (T : Int) := by omega
    rw [hT] at hx c2
    have hodd : ((k : Int) % 2 == 1) = false ∨ ((k : Int) % 2 == 1) = true := by cases ((k : Int) % 2 == 1) <;> simp
    by_cases c3 : e2 = 0
    · subst c3
      rw [if_neg (by simp)] at hx
      have d2 := vdec_form (l.drop (i + n1)) (hmem _) (by rw [hd2])
      rw [hd2] at d2
      simp only [List.length_drop, hn] at d2
      obtain ⟨b1, b2, b3, b4, b5⟩ := d2
      by_cases c4 : u = 0
      · subst c4
        rw [if_pos rfl] at hx
        have he : (next (l.drop i) ahead).2.2 = 22 := by rw [hx]; rfl
        rcases hodd with hp | hp
        · exact (field_zeroN l b off n cap i k n1 T m c ahead w hc hn hb hbc hcap hl hi hd hTk hp (by omega) (by omega) (by omega) (by omega) hd2).mono fun _ _ ⟨h1, h2⟩ => ⟨.inr ⟨22, by omega, he, h1⟩, h2⟩
        · exact (field_zeroT l b off n cap i k n1 T m c ahead w hc hn hb hbc hcap hl hi hd hTk hp (by omega) (by omega) (by omega) (by omega) hd2).mono fun _ _ ⟨h1, h2⟩ => ⟨.inr ⟨22, by omega, he, h1⟩, h2⟩
      rw [if_neg c4] at hx
      by_cases c5 : k % 2 = 0
      · rw [if_pos c5] at hx
        have hp : ((k : Int) % 2 == 1) = false := by simp; omega
        refine (field_num l b off n cap i k n1 T u m c ahead w hc hn hb hbc hcap hl hi hd hTk hp (by omega) (by omega) (by omega) (by omega) c4 b4 hd2).mono ?_
        rintro r w' ⟨h1, h2, h3⟩
        exact ⟨.inl ⟨_, _, _, hx, h1, own_nil _ _, by rw [← Nat.add_assoc]; exact h2⟩, h3⟩
      rw [if_neg c5] at hx
      have hp : ((k : Int) % 2 == 1) = true := by simp; omega
      by_cases c6 : 200 < u
      · rw [if_pos c6] at hx
        have he : (next (l.drop i) ahead).2.2 = 23 := by rw [hx]; rfl
        exact (field_long l b off n cap i k n1 T u m c ahead w hc hn hb hbc hcap hl hi hd hTk hp (by omega) (by omega) (by omega) (by omega) c4 b4 hd2 (by omega) c6).mono fun _ _ ⟨h1, h2⟩ => ⟨.inr ⟨23, by omega, he, h1⟩, h2⟩
      rw [if_neg c6] at hx
      by_cases c7 : (l.drop i).length < n1 + m + u
      · rw [if_pos c7] at hx
        have he : (next (l.drop i) ahead).2.2 = 10 := by rw [hx]; rfl
        rw [List.length_drop, hn] at c7
        exact (field_short l b off n cap i k n1 T u m c ahead w hc hn hb hbc hcap hl hi hd hTk hp (by omega) (by omega) (by omega) (by omega) c4 b4 hd2 (by omega) c6 (by omega)).mono fun _ _ ⟨h1, h2⟩ => ⟨.inr ⟨10, by omega, he, h1⟩, h2⟩
      rw [if_neg c7] at hx
      rw [List.length_drop, hn] at c7
      refine (field_text l b off n cap i k n1 T u m c ahead w hc hn hb hbc hcap hl hi hd hTk hp (by omega) (by omega) (by omega) (by omega) c4 b4 hd2 (by omega) c6 (by omega)).mono ?_
      rintro r w' ⟨bv, h1, h2, h3, h4⟩
      refine ⟨.inl ⟨_, _, bv, hx, h1, ?_, ?_⟩, h4⟩
      · show Own w' w.heap.size bv (((l.drop i).drop (n1 + m)).take u)
        rw [List.drop_drop, ← Nat.add_assoc]; exact h2
      · rw [← Nat.add_assoc, ← Nat.add_assoc]; exact h3
    · rw [if_pos c3] at hx
      have hz := dec_zero 0 0 (l.drop (i + n1)) (by rw [hd2]; exact c3)
      rw [hd2] at hz
      simp only at hz
      obtain ⟨rfl, rfl⟩ := hz
      have he : (next (l.drop i) ahead).2.2 = e2 := by rw [hx]; rfl
      rcases hodd with hp | hp
      · exact (field_bad2N l b off n cap i k n1 T e2 c ahead w hc hn hb hbc hcap hl hi hd hTk hp (by omega) (by omega) (by omega) (by omega) c3 hd2).mono fun _ _ ⟨h1, h2⟩ => ⟨.inr ⟨e2, c3, he, h1⟩, h2⟩
      · exact (field_bad2T l b off n cap i k n1 T e2 c ahead w hc hn hb hbc hcap hl hi hd hTk hp (by omega) (by omega) (by omega) (by omega) c3 hd2).mono fun _ _ ⟨h1, h2⟩ => ⟨.inr ⟨e2, c3, he, h1⟩, h2⟩
  · have hz := dec_zero 0 0 (l.drop i) (by rw [hd]; exact he1)
    rw [hd] at hz
    simp only at hz
    obtain ⟨rfl, rfl⟩ := hz
    have he : (next (l.drop i) ahead).2.2 = e1 := by rw [next_bad _ _ _ _ _ hd he1]; rfl
    exact (field_bad1 l b off n cap i e1 c ahead w hc hn hb hbc hcap hl hi he1 hd).mono fun _ _ ⟨h1, h2⟩ => ⟨.inr ⟨e1, he1, he, h1⟩, h2⟩
end Go.Proofs.YtfcgcpfckbmgnaaGreat
namespace Go.Proofs.YtfcgcpfckbmgnaaGreat
open Go.ChangeShapes Go.WideShapes Go.ChangeAt Go.RowKit
set_option linter.unusedVariables false
theorem dclos_idle (p0 p1 p2 p3 : Addr) (w : World) : CallsD Tryz.prog 53 #[.pointer (some p0), .pointer (some p1), .pointer (some p2), .pointer (some p3)] .returning w fun e u' w' => e = .returned (.tuple #[]) ∧ u' = .returning ∧ w' = w := by
  refine callsD_of_wpS Tryz.func53 rfl fun c₀ cs hu => ?_
  apply wpS_seq
  apply wpS_region
  simp [wpOpsS, go_sem, recoverD, hu, Tryz.ntmps53, Exit.thenS]
  refine wpS_of_wp ?_
  simp only [Array.replicate, List.replicate]
  go_wp2
  cases c₀
  simp_all [bodyPostS, results, Tryz.results53]
theorem dclos_catch (p0 p1 p2 p3 : Nat) (bg e : Int) (x1 : Value) (y2 y3 : Int) (older : List PanicEntry) (w : World) (h0 : w.cell? ⟨p0, 0, none⟩ = some (.int .i64 bg)) (h1 : w.cell? ⟨p1, 0, none⟩ = some x1) (h2 : w.cell? ⟨p2, 0, none⟩ = some (.int .i64 y2)) (h3 : w.cell? ⟨p3, 0, none⟩ = some (.int .i64 y3))
    (n01 : ¬ p0 = p1) (n02 : ¬ p0 = p2) (n03 : ¬ p0 = p3) (n12 : ¬ p1 = p2) (n13 : ¬ p1 = p3) (n23 : ¬ p2 = p3)
    (z1 : w.frozen? ⟨p1, 0, none⟩ = false) (z2 : w.frozen? ⟨p2, 0, none⟩ = false) (z3 : w.frozen? ⟨p3, 0, none⟩ = false) :
    CallsD Tryz.prog 53 #[.pointer (some ⟨p0, 0, none⟩), .pointer (some ⟨p1, 0, none⟩), .pointer (some ⟨p2, 0, none⟩), .pointer (some ⟨p3, 0, none⟩)] (.panicking ({ v := .iface 31 (.int .i64 e), recovered := false } :: older)) w fun r u' w' => r = .returned (.tuple #[]) ∧ u' = .panicking ({ v := .iface 31 (.int .i64 e), recovered := true } :: older) ∧ ∃ m, w' = (((w.setCell ⟨p1, 0, none⟩ (.slice none 0 0)).setCell ⟨p2, 0, none⟩ (.int .i64 bg)).setCell ⟨p3, 0, none⟩ (.int .i64 e)).drewN m := by
  refine callsD_of_wpS Tryz.func53 rfl fun c₀ cs hu => ?_
  apply wpS_seq
  apply wpS_region
  simp [wpOpsS, go_sem, recoverD, hu, Tryz.ntmps53, Exit.thenS]
  refine wpS_of_wp ?_
  simp only [Array.replicate, List.replicate]
  have hta : ∀ w : World, (Instr.typeAssert (.iface 31 (.int .i64 e)) 20 31 false).run Tryz.prog w = .ok (.int .i64 e) w := fun _ => by kernel_rfl
  have m01 : ¬ p1 = p0 := fun h => n01 h.symm
  have m02 : ¬ p2 = p0 := fun h => n02 h.symm
  have m03 : ¬ p3 = p0 := fun h => n03 h.symm
  have m12 : ¬ p2 = p1 := fun h => n12 h.symm
  have m13 : ¬ p3 = p1 := fun h => n13 h.symm
  have m23 : ¬ p3 = p2 := fun h => n23 h.symm
  go_wp2
  go_region
  all_goals go_wp2
  all_goals exact ⟨rfl, _, rfl, .tuple #[], by simp [results, Tryz.results53], rfl, rfl, 1, rfl⟩
end Go.Proofs.YtfcgcpfckbmgnaaGreat
namespace Go.Proofs.YtfcgcpfckbmgnaaGreat
open Go.ChangeShapes Go.WideShapes Go.ChangeAt Go.RowKit
set_option linter.unusedVariables false
/-- the cells of a list of fields -/
def flat : List (Fld × Value) → List Value
  | [] => []
  | p :: r => .int .i64 p.1.tag :: .bool p.1.text :: .int .u64 (p.1.num : Int) :: p.2 :: flat r
theorem flat_append : ∀ (L M : List (Fld × Value)), flat (L ++ M) = flat L ++ flat M
  | [], M => rfl
  | p :: r, M => by simp only [List.cons_append, flat, flat_append r M]
theorem flat_length : ∀ (L : List (Fld × Value)), (flat L).length = L.length * 4
  | [] => rfl
  | p :: r => by simp only [flat, List.length_cons, flat_length r]; omega
/-- a row of fields of the call's own, and their bytes -/
structure Rws (w : World) (base : Nat) (v : Value) (L : List (Fld × Value)) : Prop where
  own : w.ownsRow base 48 4 v L.length (flat L)
  byt : ∀ p ∈ L, Own w base p.2 p.1.bytes
theorem own_same2 {w w' : World} {base : Nat} {e : TypeId} {size : Nat} {v : Value} {n : Nat} {xs : List Value} (h : w.ownsRow base e size v n xs) (hs : ∀ k, base ≤ k → k < w.heap.size → w'.heap[k]? = w.heap[k]?) : w'.ownsRow base e size v n xs := by
  refine ⟨h.1, ?_⟩
  rcases h.2 with h2 | ⟨g, cap, cur, h3, h4, h5, h6⟩
  · exact .inl h2
  · exact .inr ⟨g, cap, cur, h3, h4, (hs g h4 (lt_of_heap h5)).trans h5, h6⟩
theorem Rws.same {w w' : World} {base : Nat} {v : Value} {L : List (Fld × Value)} (h : Rws w base v L) (hs : ∀ k, base ≤ k → k < w.heap.size → w'.heap[k]? = w.heap[k]?) : Rws w' base v L :=
  ⟨own_same2 h.own hs, fun p hp => ⟨(h.byt p hp).1, own_same2 (h.byt p hp).2 hs⟩⟩
theorem Rws.nil (w : World) (base : Nat) : Rws w base (.slice none 0 0) [] := ⟨World.ownsRow_nil w base _ 4, fun p hp => by cases hp⟩
theorem Rws.mono {w : World} {base base' : Nat} {v : Value} {L : List (Fld × Value)} (h : Rws w base v L) (hb : base' ≤ base) : Rws w base' v L :=
  ⟨h.own.mono hb, fun p hp => ⟨(h.byt p hp).1, (h.byt p hp).2.mono hb⟩⟩
/-- bytes in a row of their own are not touched by an append to a row of fields -/
theorem own_grown {w w' : World} {base n : Nat} {v p : Value} {xs : List Value} {l : List Nat} (ho : w.ownsRow base 48 4 v n xs) (hg : w.grownBy w' v.ownBlock) (hp : Own w base p l) : Own w' base p l := by
  refine ⟨hp.1, hp.2.1, ?_⟩
  rcases hp.2.2 with h2 | ⟨g, cap, cur, h3, h4, h5, h6⟩
  · exact .inl h2
  · refine .inr ⟨g, cap, cur, h3, h4, ?_, h6⟩
    rw [hg.block g (lt_of_heap h5) (fun h => ?_)]
    · exact h5
    · rcases ho.2 with ⟨rfl, _⟩ | ⟨g2, cap2, cur2, rfl, _, hh, _⟩
      · simp [Value.ownBlock] at h
      · have : g = g2 := by simpa [Value.ownBlock] using h
        subst this
        rw [h5] at hh
        cases hh
/-- Decode's variables -/
structure DecB (w wr : World) (a : Option Addr) (n cap i bg : Nat) (v0 : Value) : Prop where
  fs : wr.heap[w.heap.size]? = some (.cells #[v0] 42)
  at0 : wr.heap[w.heap.size + 1]? = some (.cells #[.int .i64 0] 3)
  er : wr.heap[w.heap.size + 1 + 1]? = some (.cells #[.int .i64 0] 31)
  cur : CurAt wr (w.heap.size + 1 + 1 + 1) a n cap i
  beg : wr.heap[w.heap.size + 1 + 1 + 1 + 1]? = some (.cells #[.int .i64 (bg : Int)] 3)
  bel : Below w.heap.size w wr
  size : w.heap.size + 5 ≤ wr.heap.size
theorem DecB.same {w wr wr' : World} {a : Option Addr} {n cap i bg : Nat} {v0 : Value} (h : DecB w wr a n cap i bg v0) (h1 : wr'.os = wr.os) (h2 : wr'.tape = wr.tape) (h3 : wr'.output = wr.output) (h4 : wr.heap.size ≤ wr'.heap.size) (hs : ∀ k, k < w.heap.size + 5 → wr'.heap[k]? = wr.heap[k]?) : DecB w wr' a n cap i bg v0 :=
  ⟨(hs _ (by omega)).trans h.fs, (hs _ (by omega)).trans h.at0, (hs _ (by omega)).trans h.er, (hs _ (by omega)).trans h.cur, (hs _ (by omega)).trans h.beg, ⟨h1.trans h.bel.os, h2.trans h.bel.tape, h3.trans h.bel.output, Nat.le_trans h.bel.size h4, fun k hk => (hs k (by omega)).trans (h.bel.block k hk)⟩, Nat.le_trans h.size h4⟩
theorem DecB.drewN {w wr : World} {a : Option Addr} {n cap i bg : Nat} {v0 : Value} (h : DecB w wr a n cap i bg v0) (m : Nat) : DecB w (wr.drewN m) a n cap i bg v0 := by
  induction m with
  | zero => exact h
  | succ m ih => exact ih.same rfl rfl rfl (Nat.le_refl _) (fun _ _ => rfl)
theorem DecB.alloc {w wr : World} {a : Option Addr} {n cap i bg : Nat} {v0 : Value} (h : DecB w wr a n cap i bg v0) (o : Obj) : DecB w (wr.alloc o) a n cap i bg v0 :=
  h.same rfl rfl rfl (by simp) (fun k hk => Below.heap_alloc wr o k (by have := h.size; omega))
theorem DecB.grown {w wr wr' : World} {a : Option Addr} {n cap i bg : Nat} {v0 : Value} {row : Option Nat} (h : DecB w wr a n cap i bg v0) (hg : wr.grownBy wr' row) (hr : ∀ k, row = some k → w.heap.size + 5 ≤ k) : DecB w wr' a n cap i bg v0 :=
  h.same hg.os hg.tape hg.output hg.size (fun k hk => hg.block k (by have := h.size; omega) (fun hh => by have := hr k hh.symm; omega))
theorem DecB.begin {w wr : World} {a : Option Addr} {n cap i bg : Nat} {v0 : Value} (h : DecB w wr a n cap i bg v0) (j : Nat) : DecB w (wr.setCell ⟨w.heap.size + 1 + 1 + 1 + 1, 0, none⟩ (.int .i64 (j : Int))) a n cap i j v0 := by
  have ho : ∀ k, k ≠ w.heap.size + 1 + 1 + 1 + 1 → (wr.setCell ⟨w.heap.size + 1 + 1 + 1 + 1, 0, none⟩ (.int .i64 (j : Int))).heap[k]? = wr.heap[k]? := fun k hk => heap_setCell_other wr ⟨w.heap.size + 1 + 1 + 1 + 1, 0, none⟩ k _ hk
  refine ⟨(ho _ (by omega)).trans h.fs, (ho _ (by omega)).trans h.at0, (ho _ (by omega)).trans h.er, (ho _ (by omega)).trans h.cur, ?_, h.bel.setCell (p := ⟨w.heap.size + 1 + 1 + 1 + 1, 0, none⟩) (by show w.heap.size ≤ w.heap.size + 1 + 1 + 1 + 1; omega) _, by simp; exact h.size⟩
  rw [heap_setCell_same wr _ 0 _ _ _ h.beg]; rfl
theorem DecB.put {w wr : World} {a : Option Addr} {n cap i bg : Nat} {v0 : Value} (h : DecB w wr a n cap i bg v0) (v1 : Value) : DecB w (wr.setCell ⟨w.heap.size, 0, none⟩ v1) a n cap i bg v1 := by
  have ho : ∀ k, k ≠ w.heap.size → (wr.setCell ⟨w.heap.size, 0, none⟩ v1).heap[k]? = wr.heap[k]? := fun k hk => heap_setCell_other wr ⟨w.heap.size, 0, none⟩ k _ hk
  refine ⟨?_, (ho _ (by omega)).trans h.at0, (ho _ (by omega)).trans h.er, (ho _ (by omega)).trans h.cur, (ho _ (by omega)).trans h.beg, h.bel.setCell (p := ⟨w.heap.size, 0, none⟩) (Nat.le_refl _) _, by simp; exact h.size⟩
  rw [heap_setCell_same wr _ 0 _ _ _ h.fs]; rfl
theorem DecB.kept {w wr wr' : World} {a : Option Addr} {n cap i j bg : Nat} {v0 : Value} (h : DecB w wr a n cap i bg v0) (hk : Kept (w.heap.size + 1 + 1 + 1) (w.heap.size + 1 + 1 + 1) wr wr') (hc : CurAt wr' (w.heap.size + 1 + 1 + 1) a n cap j) : DecB w wr' a n cap j bg v0 := by
  have ho : ∀ k, k < w.heap.size + 5 → k ≠ w.heap.size + 1 + 1 + 1 → wr'.heap[k]? = wr.heap[k]? := fun k hk1 hk2 => hk.block k (by have := h.size; omega) hk2 hk2
  exact ⟨(ho _ (by omega) (by omega)).trans h.fs, (ho _ (by omega) (by omega)).trans h.at0, (ho _ (by omega) (by omega)).trans h.er, hc, (ho _ (by omega) (by omega)).trans h.beg, hk.below h.bel (by omega) (by omega), Nat.le_trans h.size hk.size⟩
theorem DecB.keptB {w wr wr' : World} {a : Option Addr} {n cap i bg : Nat} {v0 : Value} (h : DecB w wr a n cap i bg v0) (hk : Kept (w.heap.size + 1 + 1 + 1) (w.heap.size + 1 + 1 + 1) wr wr') : (∃ x y, wr'.heap[w.heap.size]? = some (.cells #[x] y)) ∧ wr'.heap[w.heap.size]? = wr.heap[w.heap.size]? ∧ wr'.heap[w.heap.size + 1]? = wr.heap[w.heap.size + 1]? ∧ wr'.heap[w.heap.size + 1 + 1]? = wr.heap[w.heap.size + 1 + 1]? ∧ wr'.heap[w.heap.size + 1 + 1 + 1 + 1]? = wr.heap[w.heap.size + 1 + 1 + 1 + 1]? ∧ Below w.heap.size w wr' := by
  have ho : ∀ k, k < w.heap.size + 5 → k ≠ w.heap.size + 1 + 1 + 1 → wr'.heap[k]? = wr.heap[k]? := fun k hk1 hk2 => hk.block k (by have := h.size; omega) hk2 hk2
  exact ⟨⟨_, _, (ho _ (by omega) (by omega)).trans h.fs⟩, ho _ (by omega) (by omega), ho _ (by omega) (by omega), ho _ (by omega) (by omega), ho _ (by omega) (by omega), hk.below h.bel (by omega) (by omega)⟩
/-- the five blocks that Decode lays -/
theorem lay5 (w : World) (a : Option Addr) (n cap : Nat) : ∃ W, ((((w.alloc (.cells #[.slice none 0 0] 42)).alloc (.cells #[.int .i64 0] 3)).alloc (.cells #[.int .i64 0] 31)).alloc (.cells #[.slice a n cap, .int .i64 0] 98)).alloc (.cells #[.int .i64 0] 3) = W ∧ DecB w W a n cap 0 0 (.slice none 0 0) := by
  refine ⟨_, rfl, ?_, ?_, ?_, ?_, ?_, ((((((Below.refl _ _).alloc (Nat.le_refl _) _).alloc (by simp) _).alloc (by simp; try omega) _).alloc (by simp; try omega) _).alloc (by simp; try omega) _), by simp; try omega⟩
  · simp only [World.alloc, Array.getElem?_push, Array.size_push]
    rw [if_neg (by omega), if_neg (by omega), if_neg (by omega), if_neg (by omega), if_pos trivial]
  · simp only [World.alloc, Array.getElem?_push, Array.size_push]
    rw [if_neg (by omega), if_neg (by omega), if_neg (by omega), if_pos trivial]
  · simp only [World.alloc, Array.getElem?_push, Array.size_push]
    rw [if_neg (by omega), if_neg (by omega), if_pos trivial]
  · unfold CurAt
    simp only [World.alloc, Array.getElem?_push, Array.size_push]
    rw [if_neg (by omega), if_pos trivial]; rfl
  · simp only [World.alloc, Array.getElem?_push, Array.size_push]
    rw [if_pos trivial]; rfl
theorem results_cells3 {fn : Func} {t s q : Tmp} {ty tz tq : TypeId} (h : fn.results = #[.cell t ty, .cell s tz, .cell q tq]) (tmps : Array Value) (w : World) (b c d : Nat) (v x y : Value) (ht : tmps.getD t undef = .pointer (some ⟨b, 0, none⟩)) (hs : tmps.getD s undef = .pointer (some ⟨c, 0, none⟩)) (hq : tmps.getD q undef = .pointer (some ⟨d, 0, none⟩)) (hl : (Go.loadVar ty ⟨b, 0, none⟩).run Tryz.prog w = .ok v w) (hm : (Go.loadVar tz ⟨c, 0, none⟩).run Tryz.prog w = .ok x w) (hr : (Go.loadVar tq ⟨d, 0, none⟩).run Tryz.prog w = .ok y w) :
    (results fn tmps).run Tryz.prog w = .ok (.tuple #[v, x, y]) w := by
  simp only [Array.getD_eq_getD_getElem?] at ht hs hq
  simp [results, h, ht, hs, hq, asAddr, hl, hm, hr]
theorem loadFs {w : World} {b : Nat} {v : Value} (h : w.cell? ⟨b, 0, none⟩ = some v) : (Go.loadVar 42 ⟨b, 0, none⟩).run Tryz.prog w = .ok v w := by
  have ha : (isAgg 42).run Tryz.prog w = .ok false w := by kernel_rfl
  simp [go_sem, h, ha]
theorem loadI {w : World} {b : Nat} {v : Value} (h : w.cell? ⟨b, 0, none⟩ = some v) : (Go.loadVar 3 ⟨b, 0, none⟩).run Tryz.prog w = .ok v w := by
  have ha : (isAgg 3).run Tryz.prog w = .ok false w := by kernel_rfl
  simp [go_sem, h, ha]
theorem loadE {w : World} {b : Nat} {v : Value} (h : w.cell? ⟨b, 0, none⟩ = some v) : (Go.loadVar 31 ⟨b, 0, none⟩).run Tryz.prog w = .ok v w := by
  have ha : (isAgg 31).run Tryz.prog w = .ok false w := by kernel_rfl
  simp [go_sem, h, ha]
theorem decs_succ (fuel : Nat) (l : List Nat) (last : Int) (i : Nat) (acc : List Fld) : decs (fuel + 1) l last i acc = if l.length ≤ i then (acc, 0, 0) else if (next (l.drop i) last).2.2 ≠ 0 then ([], i, (next (l.drop i) last).2.2) else decs fuel l (next (l.drop i) last).1.tag (i + (next (l.drop i) last).2.1) (acc ++ [(next (l.drop i) last).1]) := rfl
end Go.Proofs.YtfcgcpfckbmgnaaGreat
