/- What the reference's check sum answers. -/
import Derived.Test.YtpjikkhcimghaaaDoorCrc
namespace Go.Proofs.YtpjikkhcimghaaaDoor
open Go.ChangeShapes Go.WideShapes Go.ChangeAt Go.RowKit
theorem shN_snoc (k x : Nat) : Crcm.shN (k + 1) x = Crcm.sh (Crcm.shN k x) := by rw [Crcm.shN_add]; rfl
set_option maxRecDepth 20000 in
set_option maxHeartbeats 400000 in
theorem rtake_any (r c : Nat) (w : World) (hr : r < 4294967296) (hc : c < 256) :
    Calls Tryd.prog 30 #[.int .u32 r, .int .u8 c] w fun e w' => e = .returned (.int .u32 (Crcm.take r c : Nat)) ∧ w = w' := by
  have e1 : bits .xor .u32 (r : Int) (c : Int) = ((r ^^^ c : Nat) : Int) := u32_xor_nat r c hr (by omega)
  have hx : r ^^^ c < 4294967296 := xor_lt32 hr (by omega)
  have HT : Hid (Crcm.shN 8 (r ^^^ c) = Crcm.take r c) := rfl
  generalize r ^^^ c = x at *
  go_enter Tryd.func30, Tryd.ntmps30
  go_wp2
  go_loop [0, 5, 6] (fun vc vi vo => ∃ k y : Nat, k ≤ 8 ∧ vi = .int .i64 k ∧ vc = .int .u32 y ∧ y = Crcm.shN k x) (fun _ vi _ => 8 - (intOf vi).toNat)
  case atStart => exact ⟨0, x, Nat.zero_le _, rfl, rfl, rfl⟩
  case round =>
    obtain ⟨k, y, hk, rfl, rfl, hy⟩ := hrel
    have hylt : y < 4294967296 := by rw [hy]; exact Crcm.shN_lt k x hx
    have HS : Hid (Crcm.sh y = Crcm.shN (k + 1) x) := by show _ = _; rw [shN_snoc, hy]
    have HY : Hid (y = Crcm.shN k x) := hy
    clear hy
    by_cases hk8 : k < 8
    · by_cases ho : y % 2 = 1
      · have hb : ((y : Int) % 2 == 1) = true := by simp; omega
        have e2 : bits .xor .u32 ((y : Int) / 2) 3988292384 = ((Crcm.sh y : Nat) : Int) := by
          have h := u32_xor_nat (y / 2) 3988292384 (by omega) (by omega)
          rw [show ((y / 2 : Nat) : Int) = (y : Int) / 2 from by omega] at h
          unfold Crcm.sh
          rw [if_pos ho]
          exact h
        clear ho
        go_wp2
        go_round
        case rel => exact ⟨k + 1, _, by omega, by go_num, rfl, HS.out⟩
        case measure => simp [intOf]; omega
      · have hb : ((y : Int) % 2 == 1) = false := by simp; omega
        have HS2 : Hid (Crcm.sh y = y / 2) := by show _ = _; unfold Crcm.sh; rw [if_neg ho]
        clear ho
        go_wp2
        go_round
        case rel => exact ⟨k + 1, y / 2, by omega, by go_num, by go_num, by rw [← HS.out, HS2.out]⟩
        case measure => simp [intOf]; omega
    · have hk9 : k = 8 := by omega
      subst hk9
      go_wp2
      go_ret
      exact ⟨ret_int (by rw [← HT.out, HY.out]), rfl⟩
set_option maxRecDepth 20000 in
set_option maxHeartbeats 400000 in
theorem rupdate_any (s : Nat) (l : List Nat) (a : Option Addr) (cap : Nat) (w : World) (hs : s < 4294967296) (hb : Bytes w a l) (hl : l.length ≤ maxLen) :
    Calls Tryd.prog 25 #[.int .u32 s, .slice a l.length cap] w fun e w' => e = .returned (.int .u32 (Crcm.update s l : Nat)) ∧ w = w' := by
  unfold maxLen at hl
  have e0 : (4294967295 : Int) - (s : Int) = ((s ^^^ Crcm.ones : Nat) : Int) := by
    rw [← Crcm.ones_sub s hs]; unfold Crcm.ones; omega
  have HE0 : Hid (_ = _) := e0
  clear e0
  have hr0 : s ^^^ Crcm.ones < 4294967296 := xor_lt32 hs (by decide)
  have HTK : Hid (∀ k, ∀ x ∈ l.take k, x < 256) := fun k => mem_take_lt hb k
  have HU : Hid (Crcm.upd (s ^^^ Crcm.ones) l ^^^ Crcm.ones = Crcm.update s l) := rfl
  generalize s ^^^ Crcm.ones = r0 at *
  obtain ⟨hby, rfl | ⟨b, off, rfl, hlt, hcell⟩⟩ := hb
  · have HE9 : Hid (Crcm.update s [] = s) := by
      show _ = _
      rw [← HU.out]
      have h1 := HE0.out
      have h2 := Crcm.ones_sub r0 hr0
      show r0 ^^^ Crcm.ones = s
      rw [← h2]; unfold Crcm.ones; omega
    clear hby
    go_enter Tryd.func25, Tryd.ntmps25
    go_wp2
    refine wp_loop_rounds 1 ?_
    rw [rounds_succ]
    go_wp2
    go_ret
    refine ⟨ret_int ?_, rfl⟩
    rw [HE9.out]
    omega
  · have HBY : Hid (∀ i, l.getD i 0 < 256) := hby
    have HCELL : Hid (∀ i, i < l.length → w.cell? ⟨b, off + i, none⟩ = some (.int .u8 (l.getD i 0 : Nat))) := hcell
    clear hby hcell
    go_enter Tryd.func25, Tryd.ntmps25
    go_wp2
    go_loop [5, 6] (fun vr vi => ∃ k r : Nat, k ≤ l.length ∧ vi = .int .i64 k ∧ vr = .int .u32 r ∧ r = Crcm.upd r0 (l.take k)) (fun _ vi => l.length - (intOf vi).toNat)
    case atStart => exact ⟨0, r0, Nat.zero_le _, rfl, congrArg (Value.int IntKind.u32) HE0.out, rfl⟩
    case round =>
      obtain ⟨k, r, hk, rfl, rfl, hr⟩ := hrel
      have hrlt : r < 4294967296 := by rw [hr]; exact Crcm.upd_lt _ _ hr0 (HTK.out k)
      have HR : Hid (r = Crcm.upd r0 (l.take k)) := hr
      clear hr
      by_cases hkl : k < l.length
      · have hc := HCELL.out k hkl
        have hc256 := HBY.out k
        obtain ⟨c, hcE⟩ : ∃ c, c = l.getD k 0 := ⟨_, rfl⟩
        rw [← hcE] at hc hc256
        have HN : Hid (Crcm.take r c = Crcm.upd r0 (l.take (k + 1))) := by
          show _ = _
          rw [take_snoc_nat l k c hkl hcE, upd_snoc, HR.out]
        clear hcE HCELL HBY
        go_wp2_with (go_at_call 30; refine (rtake_any r c _ hrlt hc256).mono ?_; rintro e w' ⟨rfl, rfl⟩)
        go_round
        case rel => exact ⟨k + 1, _, by omega, by go_num, rfl, HN.out⟩
        case measure => simp [intOf]; omega
      · have HF : Hid ((4294967295 : Int) - (r : Int) = (Crcm.update s l : Nat)) := by
          show _ = _
          have h1 : r = Crcm.upd r0 l := by rw [HR.out, List.take_of_length_le (by omega)]
          rw [← HU.out, ← h1, ← Crcm.ones_sub r hrlt]; unfold Crcm.ones; omega
        clear HCELL HBY
        go_wp2
        go_ret
        exact ⟨ret_int HF.out, rfl⟩
theorem rsum_any (l : List Nat) (n : Nat) (a : Option Addr) (cap : Nat) (w : World) (hn : l.length = n) (hb : Bytes w a l) (hl : l.length ≤ maxLen) :
    Calls Tryd.prog 20 #[.slice a n cap] w fun e w' => e = .returned (.int .u32 (Crcm.sum l : Nat)) ∧ w = w' := by
  subst hn
  have HB : Hid (Bytes w a l) := hb
  have HU : Hid (Crcm.update 0 l = Crcm.sum l) := rfl
  clear hb
  go_enter Tryd.func20, Tryd.ntmps20
  go_wp2_with (go_at_call 25; refine (rupdate_any 0 l _ _ _ (by omega) HB.out hl).mono ?_; rw [HU.out]; rintro e w' ⟨rfl, rfl⟩)
  go_ret
  exact ⟨rfl, rfl⟩
end Go.Proofs.YtpjikkhcimghaaaDoor
