/- Own texts, joined: EncS, Enc. -/
import Derived.Test.YtbdgiecnhgiogaaK05
import Derived.Test.YtbdgiecnhgiogaaK04
namespace Go.Proofs.Ytbdgiecnhgiogaa
open Go.ChangeShapes Go.WideShapes Go.ChangeAt Go.RowKit
theorem size_any (u : Nat) (w : World) (hu : u ≤ 18446744073709551615) :
    Calls Try.prog 58 #[.int .u64 u] w fun e w' => e = .returned (.int .i64 (enc u).length) ∧ w = w' := by
  have ho : bits .or .u64 (u : Int) 1 = ((u ||| 1 : Nat) : Int) := u64_or_nat u 1 (by omega) (by omega)
  have hb : bitLen (u ||| 1) ≤ 64 := bitLen_lt _ 64 (by rw [or_one]; omega)
  have ho2 : u ||| 1 ≤ 18446744073709551615 := by rw [or_one]; omega
  have HL : Hid (_ = _) := enc_length u hu
  generalize hx : u ||| 1 = x at *
  clear hx
  go_enter Try.func58, Try.ntmps58
  go_wp2_with (go_at_call 69; refine (len_any (x : Int) _ (by omega) (by omega)).mono ?_; rintro e w' ⟨rfl, rfl⟩; rw [Int.toNat_natCast])
  go_ret
  refine ⟨ret_int ?_, rfl⟩
  rw [HL.out]
  omega
theorem size_int (x : Int) (w : World) (h0 : 0 ≤ x) (h1 : x ≤ 18446744073709551615) :
    Calls Try.prog 58 #[.int .u64 x] w fun e w' => e = .returned (.int .i64 (enc x.toNat).length) ∧ w = w' := by
  obtain ⟨u, rfl⟩ := Int.eq_ofNat_of_zero_le h0
  rw [Int.toNat_natCast]
  exact size_any u w (by omega)
end Go.Proofs.Ytbdgiecnhgiogaa
namespace Go.Proofs.Ytbdgiecnhgiogaa
open Go.ChangeShapes Go.WideShapes Go.ChangeAt Go.RowKit
set_option maxHeartbeats 400000 in
theorem encode_any (u : Nat) (w : World) (hu : u ≤ 18446744073709551615) :
    Calls Try.prog 52 #[.int .u64 u] w fun e w' => ∃ v, e = .returned v ∧ Own w' w.heap.size v (enc u) ∧ Below w.heap.size w w' := by
  obtain ⟨i0, hi, hz0, hz1, hz2⟩ := info_parts Try.info5
  have hl := enc_length_le u hu
  obtain ⟨hl1, hl2⟩ := hl
  have HB : Hid (∀ i, (enc u).getD i 0 < 256) := enc_byte u hu
  generalize hE : enc u = l at *
  have HE : Hid (_ = _) := hE
  clear hE
  have hl3 : l.length ≤ maxLen := by unfold maxLen; omega
  go_enter Try.func52, Try.ntmps52
  go_wp2_with (first
    | (go_at_call 58; refine (size_any u _ hu).mono ?_; rw [HE.out]; rintro e w' ⟨rfl, rfl⟩)
    | (at_make; refine wpList_make_own _ rfl _ _ 27 rfl w.heap.size 5 i0 (.int .u8 0) 1 Try.underlying27 hi hz0 hz1 _ _ _ l.length rfl rfl rfl (by rw [hz2]; omega) hl3 (Nat.le_refl _) ?_))
  intro w1 ho hg
  have hb1 : Below w.heap.size w w1 := (Below.refl _ _).grown hg (Nat.le_refl _) (fun k hk => by cases hk)
  have hs1 := hb1.size
  clear hg
  go_wp2_with (go_at_call 57; refine (put_any u w.heap.size _ _ _ _ hu ho hs1 (by omega)).mono ?_; rw [HE.out, Nat.zero_add, List.nil_append]; rintro e w2 ⟨v, rfl, ho2, hb2⟩)
  go_ret
  exact ⟨v, rfl, ⟨HB.out, ho2⟩, hb1.trans hb2⟩
end Go.Proofs.Ytbdgiecnhgiogaa
