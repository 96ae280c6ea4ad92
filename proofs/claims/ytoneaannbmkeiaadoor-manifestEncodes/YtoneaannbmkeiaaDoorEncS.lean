/- What varint.Size answers. -/
import Derived.Test.YtoneaannbmkeiaaDoorLen
import Derived.Test.YtoneaannbmkeiaaDoorPut
namespace Go.Proofs.YtoneaannbmkeiaaDoor
open Go.ChangeShapes Go.WideShapes Go.ChangeAt Go.RowKit
theorem size_any (u : Nat) (w : World) (hu : u ≤ 18446744073709551615) :
    Calls Tryd.prog 39 #[.int .u64 u] w fun e w' => e = .returned (.int .i64 (enc u).length) ∧ w = w' := by
  have ho : bits .or .u64 (u : Int) 1 = ((u ||| 1 : Nat) : Int) := u64_or_nat u 1 (by omega) (by omega)
  have hb : bitLen (u ||| 1) ≤ 64 := bitLen_lt _ 64 (by rw [or_one]; omega)
  have ho2 : u ||| 1 ≤ 18446744073709551615 := by rw [or_one]; omega
  have HL : Hid (_ = _) := enc_length u hu
  generalize hx : u ||| 1 = x at *
  clear hx
  go_enter Tryd.func39, Tryd.ntmps39
  go_wp2_with (go_at_call 52; refine (len_any (x : Int) _ (by omega) (by omega)).mono ?_; rintro e w' ⟨rfl, rfl⟩; rw [Int.toNat_natCast])
  go_ret
  refine ⟨ret_int ?_, rfl⟩
  rw [HL.out]
  omega
theorem size_int (x : Int) (w : World) (h0 : 0 ≤ x) (h1 : x ≤ 18446744073709551615) :
    Calls Tryd.prog 39 #[.int .u64 x] w fun e w' => e = .returned (.int .i64 (enc x.toNat).length) ∧ w = w' := by
  obtain ⟨u, rfl⟩ := Int.eq_ofNat_of_zero_le h0
  rw [Int.toNat_natCast]
  exact size_any u w (by omega)
end Go.Proofs.YtoneaannbmkeiaaDoor
