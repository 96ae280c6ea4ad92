/- frame: Size, inBounds, appendLow, low. -/
import Derived.Test.YtpjikkhcimghaaaDoorFrm
import Derived.Test.YtpjikkhcimghaaaDoorNb
namespace Go.Proofs.YtpjikkhcimghaaaDoor
open Go.ChangeShapes Go.WideShapes Go.ChangeAt Go.RowKit
set_option linter.unusedVariables false
/-- the size of a frame whose body has n bytes -/
def fsz (n : Int) : Int := if n < 0 ∨ 16384 < n then 0 else n + 20
def inB (k s : Int) : Bool := decide (1 ≤ k ∧ k ≤ 7 ∧ 0 ≤ s ∧ s ≤ 1099511627776)
set_option maxRecDepth 20000 in
set_option maxHeartbeats 400000 in
theorem fsize_any (n : Int) (w : World) : Calls Tryd.prog 24 #[.int .i64 n] w fun e w' => e = .returned (.int .i64 (fsz n)) ∧ w = w' := by
  by_cases h1 : n < 0
  · have HF : Hid (fsz n = 0) := by show _ = _; unfold fsz; rw [if_pos (.inl h1)]
    go_enter Tryd.func24, Tryd.ntmps24
    go_wp2
    go_ret
    exact ⟨by rw [HF.out]; rfl, rfl⟩
  by_cases h2 : 16384 < n
  · have HF : Hid (fsz n = 0) := by show _ = _; unfold fsz; rw [if_pos (.inr h2)]
    go_enter Tryd.func24, Tryd.ntmps24
    go_wp2
    go_ret
    exact ⟨by rw [HF.out]; rfl, rfl⟩
  · have HF : Hid (fsz n = n + 20) := by show _ = _; unfold fsz; rw [if_neg (by omega)]
    go_enter Tryd.func24, Tryd.ntmps24
    go_wp2
    go_ret
    exact ⟨ret_int (by rw [HF.out]; omega), rfl⟩
set_option maxRecDepth 20000 in
set_option maxHeartbeats 400000 in
theorem inb_any (k s : Int) (w : World) : Calls Tryd.prog 27 #[.int .i64 k, .int .i64 s] w fun e w' => e = .returned (.bool (inB k s)) ∧ w = w' := by
  by_cases h1 : 1 ≤ k
  · by_cases h2 : k ≤ 7
    · by_cases h3 : 0 ≤ s
      · by_cases h4 : s ≤ 1099511627776
        · have HF : Hid (inB k s = true) := by show _ = _; simp [inB]; omega
          go_enter Tryd.func27, Tryd.ntmps27
          go_wp2
          go_ret
          exact ⟨by rw [HF.out]; rfl, rfl⟩
        · have HF : Hid (inB k s = false) := by show _ = _; simp [inB]; omega
          go_enter Tryd.func27, Tryd.ntmps27
          go_wp2
          go_ret
          exact ⟨by rw [HF.out]; rfl, rfl⟩
      · have HF : Hid (inB k s = false) := by show _ = _; simp [inB]; omega
        go_enter Tryd.func27, Tryd.ntmps27
        go_wp2
        go_ret
        exact ⟨by rw [HF.out]; rfl, rfl⟩
    · have HF : Hid (inB k s = false) := by show _ = _; simp [inB]; omega
      go_enter Tryd.func27, Tryd.ntmps27
      go_wp2
      go_ret
      exact ⟨by rw [HF.out]; rfl, rfl⟩
  · have HF : Hid (inB k s = false) := by show _ = _; simp [inB]; omega
    go_enter Tryd.func27, Tryd.ntmps27
    go_wp2
    go_ret
    exact ⟨by rw [HF.out]; rfl, rfl⟩
theorem Tryd.info5f : (Tryd.prog.info? 5).map (fun i => (i.zero, i.size, i.bytes)) = some (some (.int .u8 0), 1, 1) := by kernel_rfl
theorem wrap64_nil : wrap64 ((Crcm.val [] : Nat) : Int) = 0 := by unfold wrap64; rw [show Crcm.val [] = 0 from rfl]; omega
theorem i64_or_raw (a b : Int) : bits .or .i64 a b = IntKind.i64.wrap (((a % 18446744073709551616).toNat ||| (b % 18446744073709551616).toNat : Nat) : Int) := by
  show IntKind.i64.wrap ((BitVec.ofInt 64 a ||| BitVec.ofInt 64 b).toNat : Int) = _
  rw [BitVec.toNat_or, BitVec.toNat_ofInt, BitVec.toNat_ofInt]
  rfl
theorem wrap64_nat (a : Nat) (h : a < 18446744073709551616) : (wrap64 (a : Int) % 18446744073709551616).toNat = a := by
  unfold wrap64
  omega
theorem or_low (a c k : Nat) (ha : a < 2 ^ (8 * k)) (hc : c < 256) (hk : k ≤ 7) : bits .or .i64 (wrap64 (a : Int)) (wrap64 ((c : Int) * 2 ^ (8 * k))) = wrap64 ((a + c * 2 ^ (8 * k) : Nat) : Int) := by
  have h1 : 2 ^ (8 * k) ≤ 72057594037927936 := by
    have : 2 ^ (8 * k) ≤ 2 ^ 56 := Nat.pow_le_pow_right (by omega) (by omega)
    rw [show (2 : Nat) ^ 56 = 72057594037927936 from by decide] at this
    exact this
  have h2 : c * 2 ^ (8 * k) + 2 ^ (8 * k) ≤ 256 * 2 ^ (8 * k) := by
    rw [← Nat.succ_mul]; exact Nat.mul_le_mul_right _ hc
  have e1 : ((c : Int) * 2 ^ (8 * k)) = ((c * 2 ^ (8 * k) : Nat) : Int) := by simp
  have e3 := nat_join (8 * k) (c * 2 ^ (8 * k)) a (Nat.mul_mod_left _ _) ha
  rw [e1, i64_or_raw]
  generalize c * 2 ^ (8 * k) = M at *
  generalize 2 ^ (8 * k) = S at *
  rw [wrap64_nat a (by omega), wrap64_nat M (by omega), Nat.or_comm, e3, wrap_i64, Nat.add_comm]
  unfold wrap64
  rfl
set_option maxRecDepth 20000 in
set_option maxHeartbeats 400000 in
theorem low_any (l : List Nat) (n : Nat) (b off cap : Nat) (w : World) (hn : l.length = n) (h8 : n ≤ 8) (hb : Bytes w (some ⟨b, off, none⟩) l) :
    Calls Tryd.prog 26 #[.slice (some ⟨b, off, none⟩) n cap] w fun e w' => e = .returned (.int .i64 (wrap64 (Crcm.val l))) ∧ w = w' := by
  subst hn
  obtain ⟨hby, rfl | ⟨b', off', hE, hlt, hcell⟩⟩ := hb
  · go_enter Tryd.func26, Tryd.ntmps26
    go_wp2
    refine wp_loop_rounds 1 ?_
    rw [rounds_succ]
    go_wp2
    go_ret
    exact ⟨ret_int (show (0 : Int) = wrap64 ((Crcm.val [] : Nat) : Int) from wrap64_nil.symm), rfl⟩
  · cases hE
    have HBY : Hid (∀ i, l.getD i 0 < 256) := hby
    have HCELL : Hid (∀ i, i < l.length → w.cell? ⟨b, off + i, none⟩ = some (.int .u8 (l.getD i 0 : Nat))) := hcell
    clear hby hcell
    go_enter Tryd.func26, Tryd.ntmps26
    go_wp2
    go_loop [3, 8] (fun vr vi => ∃ k : Nat, ∃ r : Int, k ≤ l.length ∧ vi = .int .i64 k ∧ vr = .int .i64 r ∧ r = wrap64 (Crcm.val (l.take k))) (fun _ vi => l.length - (intOf vi).toNat)
    case atStart => exact ⟨0, 0, Nat.zero_le _, rfl, rfl, by rw [List.take_zero]; exact wrap64_nil.symm⟩
    case round =>
      obtain ⟨k, r, hk, rfl, rfl, hr⟩ := hrel
      have HR : Hid (r = wrap64 (Crcm.val (l.take k))) := hr
      clear hr
      by_cases hkl : k < l.length
      · have hc := HCELL.out k hkl
        have hc256 := HBY.out k
        obtain ⟨c, hcE⟩ : ∃ c, c = l.getD k 0 := ⟨_, rfl⟩
        rw [← hcE] at hc hc256
        have HN : Hid (bits .or .i64 r (wrap64 ((c : Int) * 2 ^ (8 * k))) = wrap64 ((Crcm.val (l.take (k + 1)) : Nat) : Int)) := by
          show _ = _
          rw [HR.out, or_low _ c k ?_ hc256 (by omega), take_snoc_nat l k c hkl hcE, Crcm.val_append, List.length_take, Nat.min_eq_left (by omega)]
          · rw [show Crcm.val [c] = c from rfl, Nat.mul_comm c]
          · have := Crcm.val_lt (l.take k) (fun x hx => by obtain ⟨i, hi, rfl⟩ := List.getElem_of_mem (List.mem_of_mem_take hx); have := HBY.out i; simpa [List.getD_eq_getElem?_getD, List.getElem?_eq_getElem hi] using this)
            rw [List.length_take, Nat.min_eq_left (by omega)] at this
            exact this
        clear hcE HCELL HBY
        go_wp2
        go_round
        case rel => exact ⟨k + 1, _, by omega, by go_num, rfl, HN.out⟩
        case measure => simp [intOf]; omega
      · go_wp2
        go_ret
        exact ⟨ret_int (by rw [HR.out, List.take_of_length_le (by omega)]), rfl⟩
end Go.Proofs.YtpjikkhcimghaaaDoor
