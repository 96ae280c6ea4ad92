/- Own texts, joined: Tlf, Len, EncS, Enc. -/
import Derived.Test.YtlcefnpiimpbpaaDoorJ07
import Derived.Test.YtlcefnpiimpbpaaDoorRows
import Derived.Test.YtlcefnpiimpbpaaDoorJ00
namespace Go.Proofs.YtlcefnpiimpbpaaDoor
open Go.ChangeShapes Go.WideShapes Go.ChangeAt Go.RowKit
set_option linter.unusedVariables false
/-- a field's value -/
abbrev FV (tag : Int) (text : Bool) (num : Nat) (bv : Value) : Value := .agg #[.int .i64 tag, .bool text, .int .u64 (num : Int), bv]
set_option maxRecDepth 20000 in
set_option maxHeartbeats 1000000 in
theorem check_any (f : Fld) (last : Int) (a : Option Addr) (cap : Nat) (w : World) (hn : f.num ≤ 18446744073709551615) :
    Calls Tryd.prog 53 #[FV f.tag f.text f.num (.slice a f.bytes.length cap), .int .i64 last] w fun r w' => r = .returned (.int .i64 (flt f last : Int)) ∧ Below w.heap.size w w' := by
  obtain ⟨tag, text, num, bytes⟩ := f
  simp only at hn ⊢
  obtain ⟨L, hL⟩ : ∃ L, bytes.length = L := ⟨_, rfl⟩
  rw [hL]
  by_cases c1 : tag < 1
  · have HF : Hid (flt ⟨tag, text, num, bytes⟩ last = 20) := by show _ = _; unfold flt; rw [if_pos (.inl c1)]
    go_enter Tryd.func53, Tryd.ntmps53
    go_wp2
    go_ret
    exact ⟨by rw [HF.out]; rfl, by first | exact (Below.refl _ _).alloc (Nat.le_refl _) _ | exact ((Below.refl _ _).alloc (Nat.le_refl _) _).alloc (by simp) _⟩
  by_cases c2 : 31 < tag
  · have HF : Hid (flt ⟨tag, text, num, bytes⟩ last = 20) := by show _ = _; unfold flt; rw [if_pos (.inr c2)]
    go_enter Tryd.func53, Tryd.ntmps53
    go_wp2
    go_ret
    exact ⟨by rw [HF.out]; rfl, by first | exact (Below.refl _ _).alloc (Nat.le_refl _) _ | exact ((Below.refl _ _).alloc (Nat.le_refl _) _).alloc (by simp) _⟩
  have c12 : ¬ (tag < 1 ∨ 31 < tag) := by omega
  by_cases c3 : tag ≤ last
  · have HF : Hid (flt ⟨tag, text, num, bytes⟩ last = 21) := by show _ = _; unfold flt; rw [if_neg c12, if_pos c3]
    go_enter Tryd.func53, Tryd.ntmps53
    go_wp2
    go_ret
    exact ⟨by rw [HF.out]; rfl, by first | exact (Below.refl _ _).alloc (Nat.le_refl _) _ | exact ((Below.refl _ _).alloc (Nat.le_refl _) _).alloc (by simp) _⟩
  cases text with
  | true =>
    by_cases c4 : L = 0
    · have HF : Hid (flt ⟨tag, true, num, bytes⟩ last = 22) := by show _ = _; unfold flt; rw [if_neg c12, if_neg c3, if_pos rfl, if_pos (List.length_eq_zero_iff.1 (hL.trans c4))]
      subst c4
      clear hL
      go_enter Tryd.func53, Tryd.ntmps53
      go_wp2
      go_ret
      exact ⟨by rw [HF.out]; rfl, by first | exact (Below.refl _ _).alloc (Nat.le_refl _) _ | exact ((Below.refl _ _).alloc (Nat.le_refl _) _).alloc (by simp) _⟩
    have c4' : bytes ≠ [] := by intro h; subst h; simp at hL; omega
    by_cases c5 : 200 < L
    · have HF : Hid (flt ⟨tag, true, num, bytes⟩ last = 23) := by show _ = _; unfold flt; rw [if_neg c12, if_neg c3, if_pos rfl, if_neg c4', if_pos (by rw [hL]; exact c5)]
      clear hL
      go_enter Tryd.func53, Tryd.ntmps53
      go_wp2
      go_ret
      exact ⟨by rw [HF.out]; rfl, by first | exact (Below.refl _ _).alloc (Nat.le_refl _) _ | exact ((Below.refl _ _).alloc (Nat.le_refl _) _).alloc (by simp) _⟩
    · have HF : Hid (flt ⟨tag, true, num, bytes⟩ last = 0) := by show _ = _; unfold flt; rw [if_neg c12, if_neg c3, if_pos rfl, if_neg c4', if_neg (by rw [hL]; exact c5)]
      clear hL
      go_enter Tryd.func53, Tryd.ntmps53
      go_wp2
      go_ret
      exact ⟨by rw [HF.out]; rfl, by first | exact (Below.refl _ _).alloc (Nat.le_refl _) _ | exact ((Below.refl _ _).alloc (Nat.le_refl _) _).alloc (by simp) _⟩
  | false =>
    by_cases c4 : num = 0
    · have HF : Hid (flt ⟨tag, false, num, bytes⟩ last = 22) := by show _ = _; unfold flt; rw [if_neg c12, if_neg c3, if_neg (by simp), if_pos c4]
      subst c4
      clear hL
      go_enter Tryd.func53, Tryd.ntmps53
      go_wp2
      go_ret
      exact ⟨by rw [HF.out]; rfl, by first | exact (Below.refl _ _).alloc (Nat.le_refl _) _ | exact ((Below.refl _ _).alloc (Nat.le_refl _) _).alloc (by simp) _⟩
    · have HF : Hid (flt ⟨tag, false, num, bytes⟩ last = 0) := by show _ = _; unfold flt; rw [if_neg c12, if_neg c3, if_neg (by simp), if_neg c4]
      clear hL
      go_enter Tryd.func53, Tryd.ntmps53
      go_wp2
      go_ret
      exact ⟨by rw [HF.out]; rfl, by first | exact (Below.refl _ _).alloc (Nat.le_refl _) _ | exact ((Below.refl _ _).alloc (Nat.le_refl _) _).alloc (by simp) _⟩
end Go.Proofs.YtlcefnpiimpbpaaDoor
namespace Go.Proofs.YtlcefnpiimpbpaaDoor
open Go.ChangeShapes Go.WideShapes Go.ChangeAt Go.RowKit
set_option maxRecDepth 20000 in
set_option maxHeartbeats 1000000 in
theorem len_any (x : Int) (w : World) (h0 : 0 ≤ x) (h1 : x ≤ 18446744073709551615) :
    Calls Tryd.prog 48 #[.int .u64 x] w fun e w' => e = .returned (.int .i64 (bitLen x.toNat)) ∧ w = w' := by
  by_cases c1 : 4294967296 ≤ x
  · have H1 : Hid (bitLen (x).toNat = 32 + bitLen (x / 4294967296).toNat) := by
      show _ = _
      rw [bitLen_shift _ 32 (by omega)]
      rw [show (x).toNat / 2 ^ 32 = (x / 4294967296).toNat from by omega]
    by_cases c2 : 65536 ≤ x / 4294967296
    · have H2 : Hid (bitLen (x / 4294967296).toNat = 16 + bitLen (x / 4294967296 / 65536).toNat) := by
        show _ = _
        rw [bitLen_shift _ 16 (by omega)]
        rw [show (x / 4294967296).toNat / 2 ^ 16 = (x / 4294967296 / 65536).toNat from by omega]
      by_cases c3 : 256 ≤ x / 4294967296 / 65536
      · have H3 : Hid (bitLen (x / 4294967296 / 65536).toNat = 8 + bitLen (x / 4294967296 / 65536 / 256).toNat) := by
          show _ = _
          rw [bitLen_shift _ 8 (by omega)]
          rw [show (x / 4294967296 / 65536).toNat / 2 ^ 8 = (x / 4294967296 / 65536 / 256).toNat from by omega]
        have HI : Hid ((x / 4294967296 / 65536 / 256).toNat < 256) := by show _ < _; omega
        have HB : Hid (bitLen x.toNat = 56 + bitLen (x / 4294967296 / 65536 / 256).toNat) := by
          show _ = _
          rw [H1.out, H2.out, H3.out]; omega
        clear H1 H2 H3
        go_enter Tryd.func48, Tryd.ntmps48
        go_wp2
        go_ret
        refine ⟨ret_int ?_, rfl⟩
        rw [len8tab_get _ _]
        exact len_close 56 x.toNat _ HB.out HI.out (by omega)
      · have d3 : x / 4294967296 / 65536 < 256 := by omega
        clear c3
        have HI : Hid ((x / 4294967296 / 65536).toNat < 256) := by show _ < _; omega
        have HB : Hid (bitLen x.toNat = 48 + bitLen (x / 4294967296 / 65536).toNat) := by
          show _ = _
          rw [H1.out, H2.out]; omega
        clear H1 H2
        go_enter Tryd.func48, Tryd.ntmps48
        go_wp2
        go_ret
        refine ⟨ret_int ?_, rfl⟩
        rw [len8tab_get _ _]
        exact len_close 48 x.toNat _ HB.out HI.out (by omega)
    · have d2 : x / 4294967296 < 65536 := by omega
      clear c2
      by_cases c3 : 256 ≤ x / 4294967296
      · have H3 : Hid (bitLen (x / 4294967296).toNat = 8 + bitLen (x / 4294967296 / 256).toNat) := by
          show _ = _
          rw [bitLen_shift _ 8 (by omega)]
          rw [show (x / 4294967296).toNat / 2 ^ 8 = (x / 4294967296 / 256).toNat from by omega]
        have HI : Hid ((x / 4294967296 / 256).toNat < 256) := by show _ < _; omega
        have HB : Hid (bitLen x.toNat = 40 + bitLen (x / 4294967296 / 256).toNat) := by
          show _ = _
          rw [H1.out, H3.out]; omega
        clear H1 H3
        go_enter Tryd.func48, Tryd.ntmps48
        go_wp2
        go_ret
        refine ⟨ret_int ?_, rfl⟩
        rw [len8tab_get _ _]
        exact len_close 40 x.toNat _ HB.out HI.out (by omega)
      · have d3 : x / 4294967296 < 256 := by omega
        clear c3
        have HI : Hid ((x / 4294967296).toNat < 256) := by show _ < _; omega
        have HB : Hid (bitLen x.toNat = 32 + bitLen (x / 4294967296).toNat) := by
          show _ = _
          rw [H1.out]
        clear H1
        go_enter Tryd.func48, Tryd.ntmps48
        go_wp2
        go_ret
        refine ⟨ret_int ?_, rfl⟩
        rw [len8tab_get _ _]
        exact len_close 32 x.toNat _ HB.out HI.out (by omega)
  · have d1 : x < 4294967296 := by omega
    clear c1
    by_cases c2 : 65536 ≤ x
    · have H2 : Hid (bitLen (x).toNat = 16 + bitLen (x / 65536).toNat) := by
        show _ = _
        rw [bitLen_shift _ 16 (by omega)]
        rw [show (x).toNat / 2 ^ 16 = (x / 65536).toNat from by omega]
      by_cases c3 : 256 ≤ x / 65536
      · have H3 : Hid (bitLen (x / 65536).toNat = 8 + bitLen (x / 65536 / 256).toNat) := by
          show _ = _
          rw [bitLen_shift _ 8 (by omega)]
          rw [show (x / 65536).toNat / 2 ^ 8 = (x / 65536 / 256).toNat from by omega]
        have HI : Hid ((x / 65536 / 256).toNat < 256) := by show _ < _; omega
        have HB : Hid (bitLen x.toNat = 24 + bitLen (x / 65536 / 256).toNat) := by
          show _ = _
          rw [H2.out, H3.out]; omega
        clear H2 H3
        go_enter Tryd.func48, Tryd.ntmps48
        go_wp2
        go_ret
        refine ⟨ret_int ?_, rfl⟩
        rw [len8tab_get _ _]
        exact len_close 24 x.toNat _ HB.out HI.out (by omega)
      · have d3 : x / 65536 < 256 := by omega
        clear c3
        have HI : Hid ((x / 65536).toNat < 256) := by show _ < _; omega
        have HB : Hid (bitLen x.toNat = 16 + bitLen (x / 65536).toNat) := by
          show _ = _
          rw [H2.out]
        clear H2
        go_enter Tryd.func48, Tryd.ntmps48
        go_wp2
        go_ret
        refine ⟨ret_int ?_, rfl⟩
        rw [len8tab_get _ _]
        exact len_close 16 x.toNat _ HB.out HI.out (by omega)
    · have d2 : x < 65536 := by omega
      clear c2
      by_cases c3 : 256 ≤ x
      · have H3 : Hid (bitLen (x).toNat = 8 + bitLen (x / 256).toNat) := by
          show _ = _
          rw [bitLen_shift _ 8 (by omega)]
          rw [show (x).toNat / 2 ^ 8 = (x / 256).toNat from by omega]
        have HI : Hid ((x / 256).toNat < 256) := by show _ < _; omega
        have HB : Hid (bitLen x.toNat = 8 + bitLen (x / 256).toNat) := by
          show _ = _
          rw [H3.out]
        clear H3
        go_enter Tryd.func48, Tryd.ntmps48
        go_wp2
        go_ret
        refine ⟨ret_int ?_, rfl⟩
        rw [len8tab_get _ _]
        exact len_close 8 x.toNat _ HB.out HI.out (by omega)
      · have d3 : x < 256 := by omega
        clear c3
        have HI : Hid ((x).toNat < 256) := by show _ < _; omega
        have HB : Hid (bitLen x.toNat = 0 + bitLen (x).toNat) := by
          show _ = _
          omega
        go_enter Tryd.func48, Tryd.ntmps48
        go_wp2
        go_ret
        refine ⟨ret_int ?_, rfl⟩
        rw [len8tab_get _ _]
        exact len_close0 x.toNat HI.out
end Go.Proofs.YtlcefnpiimpbpaaDoor
namespace Go.Proofs.YtlcefnpiimpbpaaDoor
open Go.ChangeShapes Go.WideShapes Go.ChangeAt Go.RowKit
theorem size_any (u : Nat) (w : World) (hu : u ≤ 18446744073709551615) :
    Calls Tryd.prog 36 #[.int .u64 u] w fun e w' => e = .returned (.int .i64 (enc u).length) ∧ w = w' := by
  have ho : bits .or .u64 (u : Int) 1 = ((u ||| 1 : Nat) : Int) := u64_or_nat u 1 (by omega) (by omega)
  have hb : bitLen (u ||| 1) ≤ 64 := bitLen_lt _ 64 (by rw [or_one]; omega)
  have ho2 : u ||| 1 ≤ 18446744073709551615 := by rw [or_one]; omega
  have HL : Hid (_ = _) := enc_length u hu
  generalize hx : u ||| 1 = x at *
  clear hx
  go_enter Tryd.func36, Tryd.ntmps36
  go_wp2_with (go_at_call 48; refine (len_any (x : Int) _ (by omega) (by omega)).mono ?_; rintro e w' ⟨rfl, rfl⟩; rw [Int.toNat_natCast])
  go_ret
  refine ⟨ret_int ?_, rfl⟩
  rw [HL.out]
  omega
theorem size_int (x : Int) (w : World) (h0 : 0 ≤ x) (h1 : x ≤ 18446744073709551615) :
    Calls Tryd.prog 36 #[.int .u64 x] w fun e w' => e = .returned (.int .i64 (enc x.toNat).length) ∧ w = w' := by
  obtain ⟨u, rfl⟩ := Int.eq_ofNat_of_zero_le h0
  rw [Int.toNat_natCast]
  exact size_any u w (by omega)
end Go.Proofs.YtlcefnpiimpbpaaDoor
namespace Go.Proofs.YtlcefnpiimpbpaaDoor
open Go.ChangeShapes Go.WideShapes Go.ChangeAt Go.RowKit
set_option maxHeartbeats 400000 in
theorem encode_any (u : Nat) (w : World) (hu : u ≤ 18446744073709551615) :
    Calls Tryd.prog 16 #[.int .u64 u] w fun e w' => ∃ v, e = .returned v ∧ Own w' w.heap.size v (enc u) ∧ Below w.heap.size w w' := by
  obtain ⟨i0, hi, hz0, hz1, hz2⟩ := info_parts Tryd.info5
  have hl := enc_length_le u hu
  obtain ⟨hl1, hl2⟩ := hl
  have HB : Hid (∀ i, (enc u).getD i 0 < 256) := enc_byte u hu
  generalize hE : enc u = l at *
  have HE : Hid (_ = _) := hE
  clear hE
  have hl3 : l.length ≤ maxLen := by unfold maxLen; omega
  go_enter Tryd.func16, Tryd.ntmps16
  go_wp2_with (first
    | (go_at_call 36; refine (size_any u _ hu).mono ?_; rw [HE.out]; rintro e w' ⟨rfl, rfl⟩)
    | (at_make; refine wpList_make_own _ rfl _ _ 22 rfl w.heap.size 5 i0 (.int .u8 0) 1 Tryd.underlying22 hi hz0 hz1 _ _ _ l.length rfl rfl rfl (by rw [hz2]; omega) hl3 (Nat.le_refl _) ?_))
  intro w1 ho hg
  have hb1 : Below w.heap.size w w1 := (Below.refl _ _).grown hg (Nat.le_refl _) (fun k hk => by cases hk)
  have hs1 := hb1.size
  clear hg
  go_wp2_with (go_at_call 35; refine (put_any u w.heap.size _ _ _ _ hu ho hs1 (by omega)).mono ?_; rw [HE.out, Nat.zero_add, List.nil_append]; rintro e w2 ⟨v, rfl, ho2, hb2⟩)
  go_ret
  exact ⟨v, rfl, ⟨HB.out, ho2⟩, hb1.trans hb2⟩
end Go.Proofs.YtlcefnpiimpbpaaDoor
