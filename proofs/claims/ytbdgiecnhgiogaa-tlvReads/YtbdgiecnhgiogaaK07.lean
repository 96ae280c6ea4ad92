/- Own texts, joined: Enc, Tlp. -/
import Derived.Test.YtbdgiecnhgiogaaK06
import Derived.Test.YtbdgiecnhgiogaaK05
import Derived.Test.YtbdgiecnhgiogaaK02
namespace Go.Proofs.Ytbdgiecnhgiogaa
open Go.ChangeShapes Go.WideShapes Go.ChangeAt Go.RowKit
set_option maxHeartbeats 400000 in
theorem encode_any (u : Nat) (w : World) (hu : u ≤ 18446744073709551615) :
    Calls Try.prog 52 #[.int .u64 u] w fun e w' => ∃ v, e = .returned v ∧ Own w' w.heap.size v (enc u) ∧ Below w.heap.size w w' := by
  obtain ⟨i0, hi, hz0, hz1, hz2⟩ := info_parts Try.info5
  have hl := enc_length_le u hu
  obtain ⟨hl1, hl2⟩ := hl
  have HB : Hid (∀ i, (enc u).getD i 0 < 256) := enc_byte u hu
  generalize hE : enc u = l at *
  have HE : Hid (_ = _) := hE
  clear hE
  have hl3 : l.length ≤ maxLen := by unfold maxLen; omega
  go_enter Try.func52, Try.ntmps52
  go_wp2_with (first
    | (go_at_call 58; refine (size_any u _ hu).mono ?_; rw [HE.out]; rintro e w' ⟨rfl, rfl⟩)
    | (at_make; refine wpList_make_own _ rfl _ _ 27 rfl w.heap.size 5 i0 (.int .u8 0) 1 Try.underlying27 hi hz0 hz1 _ _ _ l.length rfl rfl rfl (by rw [hz2]; omega) hl3 (Nat.le_refl _) ?_))
  intro w1 ho hg
  have hb1 : Below w.heap.size w w1 := (Below.refl _ _).grown hg (Nat.le_refl _) (fun k hk => by cases hk)
  have hs1 := hb1.size
  clear hg
  go_wp2_with (go_at_call 57; refine (put_any u w.heap.size _ _ _ _ hu ho hs1 (by omega)).mono ?_; rw [HE.out, Nat.zero_add, List.nil_append]; rintro e w2 ⟨v, rfl, ho2, hb2⟩)
  go_ret
  exact ⟨v, rfl, ⟨HB.out, ho2⟩, hb1.trans hb2⟩
end Go.Proofs.Ytbdgiecnhgiogaa
namespace Go.Proofs.Ytbdgiecnhgiogaa
open Go.ChangeShapes Go.WideShapes Go.ChangeAt Go.RowKit
set_option linter.unusedVariables false
theorem encode_at (x : Int) (u : Nat) (hx : x = u) (w : World) (hu : u ≤ 18446744073709551615) :
    Calls Try.prog 52 #[.int .u64 x] w fun e w' => ∃ g cap, e = .returned (.slice (some ⟨g, 0, none⟩) (enc u).length cap) ∧ Bytes w' (some ⟨g, 0, none⟩) (enc u) ∧ w.heap.size ≤ g ∧ Below w.heap.size w w' := by
  subst hx
  refine (encode_any u w hu).mono ?_
  rintro e w1 ⟨v, rfl, ho, hb⟩
  obtain ⟨a, cap, rfl, _, _, hby, hsh⟩ := ho.shape
  have hl := enc_length_le u hu
  rcases hsh with ⟨_, h0, _⟩ | ⟨g, rfl, hg, _⟩
  · rw [h0] at hl; simp at hl
  · exact ⟨g, cap, rfl, hby, hg, hb⟩
/-- a field lies in block k -/
def FldAt (w : World) (k : Nat) (tag : Int) (text : Bool) (num : Nat) (bv : Value) : Prop := w.heap[k]? = some (.cells #[.int .i64 tag, .bool text, .int .u64 (num : Int), bv] 32)
theorem FldAt.cells {w : World} {k : Nat} {tag : Int} {text : Bool} {num : Nat} {bv : Value} (h : FldAt w k tag text num bv) : w.cell? ⟨k, 0, none⟩ = some (.int .i64 tag) ∧ w.cell? ⟨k, 1, none⟩ = some (.bool text) ∧ w.cell? ⟨k, 2, none⟩ = some (.int .u64 (num : Int)) ∧ w.cell? ⟨k, 3, none⟩ = some bv :=
  ⟨by rw [cell_of_row _ _ 0 _ _ _ h]; rfl, by rw [cell_of_row _ _ 1 _ _ _ h]; rfl, by rw [cell_of_row _ _ 2 _ _ _ h]; rfl, by rw [cell_of_row _ _ 3 _ _ _ h]; rfl⟩
theorem FldAt.new (w : World) (tag : Int) (text : Bool) (num : Nat) (bv : Value) : FldAt (w.alloc (.cells #[.int .i64 tag, .bool text, .int .u64 (num : Int), bv] 32)) w.heap.size tag text num bv := by
  unfold FldAt; simp only [World.alloc, Array.getElem?_push]; rw [if_pos trivial]
theorem FldAt.keep {w w' : World} {k : Nat} {tag : Int} {text : Bool} {num : Nat} {bv : Value} (h : FldAt w k tag text num bv) (hb : Below w.heap.size w w') : FldAt w' k tag text num bv := (hb.block k (lt_of_heap h)).trans h
theorem FldAt.grown {w w' : World} {base n k : Nat} {v : Value} {xs : List Value} {tag : Int} {text : Bool} {num : Nat} {bv : Value} (h : FldAt w k tag text num bv) (ho : w.ownsRow base 5 1 v n xs) (hg : w.grownBy w' v.ownBlock) : FldAt w' k tag text num bv := grown_other ho hg h (by decide)
set_option maxRecDepth 20000 in
set_option maxHeartbeats 1000000 in
theorem putn_any (T num L : Nat) (a : Option Addr) (cap base : Nat) (v : Value) (n : Nat) (xs : List Value) (w : World) (hT : T ≤ 31) (hnum : num ≤ 18446744073709551615)
    (hown : w.ownsRow base 5 1 v n xs) (hbase : base ≤ w.heap.size) (hn : n ≤ 140737488000000) :
    Calls Try.prog 42 #[v, FV (T : Int) false num (.slice a L cap)] w fun r w' => ∃ v', r = .returned v' ∧ w'.ownsRow base 5 1 v' (n + (enc (2 * T)).length + (enc num).length) (xs ++ B8 (enc (2 * T)) ++ B8 (enc num)) ∧ Below base w w' ∧ NB w w' := by
  obtain ⟨i0, hi, hz0, hz1, hz2⟩ := info_parts Try.info5
  have hl1 := enc_length_le (2 * T) (by omega)
  have hl2 := enc_length_le num hnum
  obtain ⟨l1, hl1e⟩ : ∃ l1, enc (2 * T) = l1 := ⟨_, rfl⟩
  obtain ⟨l2, hl2e⟩ : ∃ l2, enc num = l2 := ⟨_, rfl⟩
  rw [hl1e] at hl1 ⊢
  rw [hl2e] at hl2 ⊢
  have HE : Hid (enc (2 * T) = l1 ∧ enc num = l2) := ⟨hl1e, hl2e⟩
  have HO : Hid (w.ownsRow base 5 1 v n xs) := hown
  have HF0 : Hid (FldAt (w.alloc (.cells #[.int .i64 (T : Int), .bool false, .int .u64 (num : Int), .slice a L cap] 32)) w.heap.size T false num (.slice a L cap)) := FldAt.new _ _ _ _ _
  have T1 : Hid True := trivial
  have T2 : Hid True := trivial
  have hTI : (T : Int) ≤ 31 := by omega
  clear hl1e hl2e hown
  go_enter Try.func42, Try.ntmps42
  go_wp2_with (first
    | (go_at_call 52; clear T1; refine (encode_at _ (2 * T) (by omega) _ (by omega)).mono ?_; rw [HE.out.1]; rintro r w1 ⟨g1, c1, rfl, hby1, hg1, hb1⟩; have HB1 : Hid (Below base w w1) := (((Below.refl base w).alloc hbase _).trans (hb1.mono (by simp; omega))); have HF1 : Hid (FldAt w1 w.heap.size T false num (.slice a L cap)) := HF0.out.keep hb1; have HQ1 : Hid (NB w w1) := (NB.of_below ((Below.refl w.heap.size w).alloc (Nat.le_refl _) _)).trans (NB.of_below hb1); have ho1 := own_below (HO.out.alloc _) hb1; have hs1 := HB1.out.size; clear hb1 HF0)
    | (at_builtin; clear T2; refine wpList_append_own _ rfl _ _ 27 rfl base 5 i0 (.int .u8 0) 1 1 Try.underlying27 hi hz0 hz1 hz2 rfl (by decide) _ _ _ rfl ho1 ⟨g1, 0, none⟩ _ _ (B8 l1) rfl (B8_length _) (bytes_cells hby1) (B8_one _) (by unfold maxLen; omega) (by omega) (by omega) ?_; intro v2 w2 ho2 hg2 _; have HB2 : Hid (Below base w w2) := grown_row HB1.out ho1 (by omega) hg2; have HQ2 : Hid (NB w w2) := HQ1.out.trans (NB.of_grown ho1 hg2); obtain ⟨_, _, hc2, _⟩ := (HF1.out.grown ho1 hg2).cells; have HO2 : Hid (w2.ownsRow base 5 1 v2 (n + l1.length) (xs ++ B8 l1)) := ho2; have hs2 := HB2.out.size; clear hg2 ho1 hby1 ho2 HF1)
    | (go_at_call 52; refine (encode_at _ num rfl _ hnum).mono ?_; rw [HE.out.2]; rintro r w3 ⟨g3, c3, rfl, hby3, hg3, hb3⟩; have HB3 : Hid (Below base w w3) := HB2.out.trans (hb3.mono (by omega)); have HQ3 : Hid (NB w w3) := HQ2.out.trans (NB.of_below hb3); have ho3 := own_below HO2.out hb3; have hs3 := HB3.out.size; clear hb3)
    | (at_builtin; refine wpList_append_own _ rfl _ _ 27 rfl base 5 i0 (.int .u8 0) 1 1 Try.underlying27 hi hz0 hz1 hz2 rfl (by decide) _ _ _ rfl ho3 ⟨g3, 0, none⟩ _ _ (B8 l2) rfl (B8_length _) (bytes_cells hby3) (B8_one _) (by unfold maxLen; omega) (by omega) (by omega) ?_; intro v4 w4 ho4 hg4 _; have HB4 : Hid (Below base w w4) := grown_row HB3.out ho3 (by omega) hg4; have HQ4 : Hid (NB w w4) := HQ3.out.trans (NB.of_grown ho3 hg4); clear hg4 ho3 hby3))
  go_ret
  exact ⟨v4, rfl, ho4, HB4.out, HQ4.out⟩
set_option maxRecDepth 20000 in
set_option maxHeartbeats 1000000 in
theorem putt_any (T num : Nat) (l : List Nat) (b off cap base : Nat) (v : Value) (n : Nat) (xs : List Value) (w : World) (hT : T ≤ 31) (hl0 : 0 < l.length) (hl : l.length ≤ 200) (hby : ∀ w', Below base w w' → Bytes w' (some ⟨b, off, none⟩) l)
    (hown : w.ownsRow base 5 1 v n xs) (hbase : base ≤ w.heap.size) (hn : n ≤ 140737488000000) :
    Calls Try.prog 42 #[v, FV (T : Int) true num (.slice (some ⟨b, off, none⟩) l.length cap)] w fun r w' => ∃ v', r = .returned v' ∧ w'.ownsRow base 5 1 v' (n + (enc (2 * T + 1)).length + (enc l.length).length + l.length) (xs ++ B8 (enc (2 * T + 1)) ++ B8 (enc l.length) ++ B8 l) ∧ Below base w w' ∧ NB w w' := by
  obtain ⟨i0, hi, hz0, hz1, hz2⟩ := info_parts Try.info5
  obtain ⟨L, hL⟩ : ∃ L, l.length = L := ⟨_, rfl⟩
  rw [hL] at hl hl0 ⊢
  have hl1 := enc_length_le (2 * T + 1) (by omega)
  have hl2 := enc_length_le L (by omega)
  obtain ⟨l1, hl1e⟩ : ∃ l1, enc (2 * T + 1) = l1 := ⟨_, rfl⟩
  obtain ⟨l2, hl2e⟩ : ∃ l2, enc L = l2 := ⟨_, rfl⟩
  rw [hl1e] at hl1 ⊢
  rw [hl2e] at hl2 ⊢
  have HE : Hid (enc (2 * T + 1) = l1 ∧ enc L = l2 ∧ l.length = L) := ⟨hl1e, hl2e, hL⟩
  have HO : Hid (w.ownsRow base 5 1 v n xs) := hown
  have HY : Hid (∀ w', Below base w w' → Bytes w' (some ⟨b, off, none⟩) l) := hby
  have HF0 : Hid (FldAt (w.alloc (.cells #[.int .i64 (T : Int), .bool true, .int .u64 (num : Int), .slice (some ⟨b, off, none⟩) L cap] 32)) w.heap.size T true num (.slice (some ⟨b, off, none⟩) L cap)) := FldAt.new _ _ _ _ _
  have T1 : Hid True := trivial
  have T2 : Hid True := trivial
  have T3 : Hid True := trivial
  have hTI : (T : Int) ≤ 31 := by omega
  have hLI : (L : Int) ≤ 200 := by omega
  clear hl1e hl2e hown hby hL
  go_enter Try.func42, Try.ntmps42
  go_wp2_with (first
    | (go_at_call 52; clear T1; refine (encode_at _ (2 * T + 1) (by omega) _ (by omega)).mono ?_; rw [HE.out.1]; rintro r w1 ⟨g1, c1, rfl, hby1, hg1, hb1⟩; have HB1 : Hid (Below base w w1) := (((Below.refl base w).alloc hbase _).trans (hb1.mono (by simp; omega))); have HF1 : Hid (FldAt w1 w.heap.size T true num (.slice (some ⟨b, off, none⟩) L cap)) := HF0.out.keep hb1; have HQ1 : Hid (NB w w1) := (NB.of_below ((Below.refl w.heap.size w).alloc (Nat.le_refl _) _)).trans (NB.of_below hb1); have ho1 := own_below (HO.out.alloc _) hb1; have hs1 := HB1.out.size; clear hb1 HF0)
    | (at_builtin; clear T2; refine wpList_append_own _ rfl _ _ 27 rfl base 5 i0 (.int .u8 0) 1 1 Try.underlying27 hi hz0 hz1 hz2 rfl (by decide) _ _ _ rfl ho1 ⟨g1, 0, none⟩ _ _ (B8 l1) rfl (B8_length _) (bytes_cells hby1) (B8_one _) (by unfold maxLen; omega) (by omega) (by omega) ?_; intro v2 w2 ho2 hg2 _; have HB2 : Hid (Below base w w2) := grown_row HB1.out ho1 (by omega) hg2; have HQ2 : Hid (NB w w2) := HQ1.out.trans (NB.of_grown ho1 hg2); have HF2 : Hid (FldAt w2 w.heap.size T true num (.slice (some ⟨b, off, none⟩) L cap)) := HF1.out.grown ho1 hg2; obtain ⟨_, _, _, hc2⟩ := HF2.out.cells; have HO2 : Hid (w2.ownsRow base 5 1 v2 (n + l1.length) (xs ++ B8 l1)) := ho2; have hs2 := HB2.out.size; clear hg2 ho1 hby1 ho2 HF1)
    | (go_at_call 52; refine (encode_at _ L (by omega) _ (by omega)).mono ?_; rw [HE.out.2.1]; rintro r w3 ⟨g3, c3, rfl, hby3, hg3, hb3⟩; have HB3 : Hid (Below base w w3) := HB2.out.trans (hb3.mono (by omega)); have HQ3 : Hid (NB w w3) := HQ2.out.trans (NB.of_below hb3); have HF3 : Hid (FldAt w3 w.heap.size T true num (.slice (some ⟨b, off, none⟩) L cap)) := HF2.out.keep hb3; have ho3 := own_below HO2.out hb3; have hs3 := HB3.out.size; clear hb3)
    | (at_builtin; clear T3; refine wpList_append_own _ rfl _ _ 27 rfl base 5 i0 (.int .u8 0) 1 1 Try.underlying27 hi hz0 hz1 hz2 rfl (by decide) _ _ _ rfl ho3 ⟨g3, 0, none⟩ _ _ (B8 l2) rfl (B8_length _) (bytes_cells hby3) (B8_one _) (by unfold maxLen; omega) (by omega) (by omega) ?_; intro v4 w4 ho4 hg4 _; have HB4 : Hid (Below base w w4) := grown_row HB3.out ho3 (by omega) hg4; have HQ4 : Hid (NB w w4) := HQ3.out.trans (NB.of_grown ho3 hg4); obtain ⟨_, _, _, hc4⟩ := (HF3.out.grown ho3 hg4).cells; have HO4 : Hid (w4.ownsRow base 5 1 v4 (n + l1.length + l2.length) (xs ++ B8 l1 ++ B8 l2)) := ho4; have hs4 := HB4.out.size; clear hg4 ho3 hby3 ho4)
    | (at_builtin; refine wpList_append_own _ rfl _ _ 27 rfl base 5 i0 (.int .u8 0) 1 1 Try.underlying27 hi hz0 hz1 hz2 rfl (by decide) _ _ _ rfl HO4.out ⟨b, off, none⟩ _ _ (B8 l) rfl (by rw [B8_length, HE.out.2.2]) (bytes_cells (HY.out _ HB4.out)) (B8_one _) (by unfold maxLen; omega) (by omega) (by omega) ?_; intro v6 w6 ho6 hg6 _; have HB6 : Hid (Below base w w6) := grown_row HB4.out HO4.out (by omega) hg6; have HQ6 : Hid (NB w w6) := HQ4.out.trans (NB.of_grown HO4.out hg6); clear hg6))
  go_ret
  exact ⟨v6, rfl, ho6, HB6.out, HQ6.out⟩
/-- put, for every right field -/
theorem putf_any (F : Fld) (last : Int) (ad : Option Addr) (cap base : Nat) (v : Value) (acc : List Nat) (w : World) (hz : flt F last = 0) (hnum : F.num ≤ 18446744073709551615) (hby : ∀ w', Below base w w' → Bytes w' ad F.bytes) (hown : Own w base v acc) (hbase : base ≤ w.heap.size) (hn : acc.length ≤ 140737488000000) :
    Calls Try.prog 42 #[v, FV F.tag F.text F.num (.slice ad F.bytes.length cap)] w fun r w' => ∃ v', r = .returned v' ∧ Own w' base v' (acc ++ one F) ∧ Below base w w' ∧ NB w w' := by
  obtain ⟨t1, t2, t3⟩ := flt_tag hz
  obtain ⟨T, hT⟩ : ∃ T : Nat, F.tag = T := ⟨F.tag.toNat, by omega⟩
  have hbt : ∀ x ∈ one F, x < 256 := by
    intro x hx
    have hbm : ∀ x ∈ F.bytes, x < 256 := (hby w (Below.refl _ _)).mem
    have he : ∀ u, u ≤ 18446744073709551615 → ∀ x ∈ enc u, x < 256 := fun u hu => enc_lt 9 u (lt_pow10 u hu)
    have hlen := (one_len F last hnum hz).2
    unfold one at hx hlen
    by_cases ht : F.text = true
    · rw [if_pos ht] at hx hlen
      simp only [List.length_append] at hlen
      rcases List.mem_append.1 hx with h | h
      · exact he _ (by omega) x h
      · rcases List.mem_append.1 h with h | h
        · exact he _ (by omega) x h
        · exact hbm x h
    · rw [if_neg ht] at hx
      rcases List.mem_append.1 hx with h | h
      · exact he _ (by omega) x h
      · exact he _ hnum x h
  have hfin : ∀ i, (acc ++ one F).getD i 0 < 256 := by
    intro i
    rw [List.getD_eq_getElem?_getD, List.getElem?_append]
    split
    · have := hown.1 i; rwa [List.getD_eq_getElem?_getD] at this
    · by_cases hi : i - acc.length < (one F).length
      · rw [List.getElem?_eq_getElem hi]; exact hbt _ (List.getElem_mem _)
      · rw [List.getElem?_eq_none (by omega)]; simp
  obtain ⟨tag, text, num, bytes⟩ := F
  simp only at hT hnum hby ⊢
  subst hT
  cases text with
  | false =>
    refine (putn_any T num bytes.length ad cap base v acc.length (B8 acc) w (by simp only at t2; omega) hnum hown.2 hbase hn).mono ?_
    rintro r w' ⟨v', h1, h2, h3, h4⟩
    refine ⟨v', h1, ⟨hfin, ?_⟩, h3, h4⟩
    unfold one
    rw [if_neg (by simp)]
    simp only [Int.toNat_natCast]
    rw [B8_append, B8_append, List.length_append, List.length_append, ← List.append_assoc, ← Nat.add_assoc]
    exact h2
  | true =>
    unfold flt at hz
    rw [if_neg (by simp only at t1 t2 ⊢; omega), if_neg (by simp only at t3 ⊢; omega), if_pos rfl] at hz
    have h3 : bytes ≠ [] := fun hc => by rw [if_pos hc] at hz; cases hz
    rw [if_neg h3] at hz
    have h4 : ¬ 200 < bytes.length := fun hc => by rw [if_pos hc] at hz; cases hz
    obtain ⟨b, off, rfl, _, _⟩ := (hby w (Below.refl _ _)).nonempty h3
    refine (putt_any T num bytes b off cap base v acc.length (B8 acc) w (by simp only at t2; omega) (List.length_pos_iff.2 h3) (by omega) hby hown.2 hbase hn).mono ?_
    rintro r w' ⟨v', g1, g2, g3, g4⟩
    refine ⟨v', g1, ⟨hfin, ?_⟩, g3, g4⟩
    unfold one
    rw [if_pos rfl]
    simp only [Int.toNat_natCast]
    rw [B8_append, B8_append, B8_append, List.length_append, List.length_append, List.length_append, ← List.append_assoc, ← List.append_assoc, ← Nat.add_assoc, ← Nat.add_assoc]
    exact g2
end Go.Proofs.Ytbdgiecnhgiogaa
