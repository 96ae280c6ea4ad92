/- What the reference's Combine answers. -/
import Derived.Test.YtnecnedkoddihaaDoorRcrc
namespace Go.Proofs.YtnecnedkoddihaaDoor
open Go.ChangeShapes Go.WideShapes Go.ChangeAt Go.RowKit
theorem take0 (r : Nat) : Crcm.take r 0 = Crcm.shN 8 r := by rw [Crcm.take, Nat.xor_zero]
theorem shN_more (k a : Nat) : Crcm.shN (8 * (k + 1)) a = Crcm.take (Crcm.shN (8 * k) a) 0 := by
  rw [take0, ← Crcm.shN_add]; congr 1
set_option maxRecDepth 100000 in
set_option maxHeartbeats 2000000 in
theorem rcomb_any (a b : Nat) (n : Int) (w : World) (ha : a < 4294967296) (hb : b < 4294967296) (hn : n ≤ 4096) :
    Calls Tryd.prog 11 #[.int .u32 a, .int .u32 b, .int .i64 n] w fun e w' => e = .returned (.int .u32 (Crcm.shN (8 * n.toNat) a ^^^ b : Nat)) ∧ Below w.heap.size w w' := by
  have HA : Hid (a < 4294967296) := ha
  have HB : Hid (b < 4294967296) := hb
  clear ha hb
  go_enter Tryd.func11, Tryd.ntmps11
  go_wp2
  go_loop [0, 7] (fun va vi => ∃ k : Nat, k ≤ n.toNat ∧ vi = .int .i64 k ∧ va = .int .u32 (Crcm.shN (8 * k) a : Nat)) (fun _ vi => n.toNat - (intOf vi).toNat)
  case atStart => exact ⟨0, Nat.zero_le _, rfl, rfl⟩
  case round =>
    obtain ⟨k, hk, rfl, rfl⟩ := hrel
    obtain ⟨r, hr⟩ : ∃ r, Crcm.shN (8 * k) a = r := ⟨_, rfl⟩
    have HR : Hid (Crcm.shN (8 * k) a = r) := hr
    have HRL : Hid (r < 4294967296) := by show r < 4294967296; rw [← hr]; exact Crcm.shN_lt _ _ HA.out
    have HNX : Hid (Crcm.take r 0 = Crcm.shN (8 * (k + 1)) a) := by show _ = _; rw [shN_more, hr]
    rw [hr]
    clear hr
    by_cases hkn : (k : Int) < n
    · have hkn2 : k < n.toNat := by omega
      go_wp2_with (go_at_call 24; refine (rtake_any r 0 _ HRL.out (by omega)).mono ?_; rw [HNX.out]; rintro e w1 ⟨rfl, rfl⟩)
      go_round
      case rel => exact ⟨k + 1, by omega, by go_num, rfl⟩
      case measure => simp [intOf]; omega
    · have hkn2 : k = n.toNat := by omega
      have hx : bits .xor .u32 (r : Int) (b : Int) = ((r ^^^ b : Nat) : Int) := u32_xor_nat r b HRL.out HB.out
      have HE : Hid (Crcm.shN (8 * n.toNat) a ^^^ b = r ^^^ b) := by show _ = _; rw [← hkn2, HR.out]
      clear hkn2 hk
      go_wp2
      go_ret
      exact ⟨by rw [HE.out]; rfl, Below.refl _ _⟩
end Go.Proofs.YtnecnedkoddihaaDoor
