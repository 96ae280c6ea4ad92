/- simfs.Right. -/
import Derived.Test.YtlnhhgmdajbepaaBs
import Derived.Test.YtlnhhgmdajbepaaProg
import Derived.Lib.AppendIntMem
import Derived.Laws.IdiomStrings
namespace Go.Proofs.Ytlnhhgmdajbepaa
open Go.ChangeShapes Go.WideShapes Go.ChangeAt Go.RowKit
set_option linter.unusedVariables false
/-- a byte that a name may have -/
def okc (c : Nat) : Bool := decide ((97 ≤ c ∧ c ≤ 122) ∨ (48 ≤ c ∧ c ≤ 57) ∨ c = 45 ∨ c = 46)
def rightS (l : List UInt8) : Bool := decide (1 ≤ l.length ∧ l.length ≤ 24 ∧ ∀ c ∈ l, okc c.toNat = true)
set_option maxRecDepth 20000 in
set_option maxHeartbeats 400000 in
theorem rbyte_any (c : Nat) (w : World) (hc : c < 256) : Calls Try.prog 54 #[.int .u8 (c : Int)] w fun e w' => e = .returned (.bool (okc c)) ∧ w = w' := by
  by_cases a1 : 97 ≤ c
  · have i1 : (97 : Int) ≤ (c : Int) := by omega
    have i3 : (48 : Int) ≤ (c : Int) := by omega
    have i4 : ¬ (c : Int) ≤ 57 := by omega
    have i5 : ((c : Int) == 45) = false := by simp; omega
    have i6 : ((c : Int) == 46) = false := by simp; omega
    by_cases a2 : c ≤ 122
    · have HO : Hid (okc c = true) := by show _ = _; simp [okc]; omega
      have i2 : (c : Int) ≤ 122 := by omega
      go_enter Try.func54, Try.ntmps54
      go_wp2
      go_ret
      exact ⟨by rw [HO.out]; rfl, rfl⟩
    · have HO : Hid (okc c = false) := by show _ = _; simp [okc]; omega
      have i2 : ¬ (c : Int) ≤ 122 := by omega
      go_enter Try.func54, Try.ntmps54
      go_wp2
      go_ret
      exact ⟨by rw [HO.out]; rfl, rfl⟩
  · have i1 : ¬ (97 : Int) ≤ (c : Int) := by omega
    by_cases a3 : 48 ≤ c
    · have i3 : (48 : Int) ≤ (c : Int) := by omega
      have i5 : ((c : Int) == 45) = false := by simp; omega
      have i6 : ((c : Int) == 46) = false := by simp; omega
      by_cases a4 : c ≤ 57
      · have HO : Hid (okc c = true) := by show _ = _; simp [okc]; omega
        have i4 : (c : Int) ≤ 57 := by omega
        go_enter Try.func54, Try.ntmps54
        go_wp2
        go_ret
        exact ⟨by rw [HO.out]; rfl, rfl⟩
      · have HO : Hid (okc c = false) := by show _ = _; simp [okc]; omega
        have i4 : ¬ (c : Int) ≤ 57 := by omega
        go_enter Try.func54, Try.ntmps54
        go_wp2
        go_ret
        exact ⟨by rw [HO.out]; rfl, rfl⟩
    · have i3 : ¬ (48 : Int) ≤ (c : Int) := by omega
      by_cases a5 : c = 45
      · subst a5
        clear a1 a3
        go_enter Try.func54, Try.ntmps54
        go_wp2
        go_ret
        exact ⟨by rfl, rfl⟩
      · have i5 : ((c : Int) == 45) = false := by simp; omega
        by_cases a6 : c = 46
        · subst a6
          clear a1 a3
          go_enter Try.func54, Try.ntmps54
          go_wp2
          go_ret
          exact ⟨by rfl, rfl⟩
        · have i6 : ((c : Int) == 46) = false := by simp; omega
          have HO : Hid (okc c = false) := by show _ = _; simp [okc]; omega
          go_enter Try.func54, Try.ntmps54
          go_wp2
          go_ret
          exact ⟨by rw [HO.out]; rfl, rfl⟩
set_option maxRecDepth 20000 in
set_option maxHeartbeats 400000 in
theorem right_any (l : List UInt8) (w : World) (hl : l.length ≤ 281474976710656) : Calls Try.prog 25 #[.string (bs l)] w fun e w' => e = .returned (.bool (rightS l)) ∧ w = w' := by
  have hlI : (l.length : Int) ≤ 281474976710656 := by omega
  by_cases h1 : l.length < 1
  · have HO : Hid (rightS l = false) := by show _ = _; unfold rightS; rw [decide_eq_false_iff_not]; omega
    have i1 : (l.length : Int) < 1 := by omega
    go_enter Try.func25, Try.ntmps25
    go_wp2
    go_ret
    exact ⟨by rw [HO.out]; rfl, rfl⟩
  by_cases h2 : 24 < l.length
  · have HO : Hid (rightS l = false) := by show _ = _; unfold rightS; rw [decide_eq_false_iff_not]; omega
    have i1 : (1 : Int) ≤ (l.length : Int) := by omega
    have i2 : (24 : Int) < (l.length : Int) := by omega
    go_enter Try.func25, Try.ntmps25
    go_wp2
    go_ret
    exact ⟨by rw [HO.out]; rfl, rfl⟩
  have i1 : (1 : Int) ≤ (l.length : Int) := by omega
  have i2 : (l.length : Int) ≤ 24 := by omega
  go_enter Try.func25, Try.ntmps25
  go_wp2
  go_loop [14] (fun vi => ∃ k : Nat, k ≤ l.length ∧ vi = .int .i64 k ∧ ∀ j (hj : j < l.length), j < k → okc (l[j]).toNat = true) (fun vi => l.length - (intOf vi).toNat)
  case atStart => exact ⟨0, Nat.zero_le _, rfl, fun j hj h => by omega⟩
  case round =>
    obtain ⟨k, hk, rfl, hall⟩ := hrel
    have HALL : Hid (∀ j (hj : j < l.length), j < k → okc (l[j]).toNat = true) := hall
    clear hall
    by_cases hkl : k < l.length
    · have hkI : (k : Int) < (l.length : Int) := by omega
      obtain ⟨c, hc⟩ : ∃ c, (l[k]'hkl).toNat = c := ⟨_, rfl⟩
      have hc256 : c < 256 := by rw [← hc]; exact UInt8.toNat_lt _
      have HBY : Hid (∀ w, Calls Try.prog 54 #[.int .u8 (((bs l)[k]'hkl).toNat : Int)] w fun e w' => e = .returned (.bool (okc c)) ∧ w = w') := fun w => by
        have := rbyte_any c w hc256
        rw [← hc] at this ⊢
        exact this
      cases ho : okc c with
      | true =>
        rw [ho] at HBY
        have HN : Hid (∀ j (hj : j < l.length), j < k + 1 → okc (l[j]).toNat = true) := fun j hj h => by
          by_cases hjk : j < k
          · exact HALL.out j hj hjk
          · obtain rfl : j = k := by omega
            rw [hc]; exact ho
        clear ho hc
        go_wp2_with (go_at_call 54; refine (HBY.out _).mono ?_; rintro e w1 ⟨rfl, rfl⟩)
        go_round
        case rel => exact ⟨k + 1, by omega, by go_num, HN.out⟩
        case measure => simp [intOf]; omega
      | false =>
        rw [ho] at HBY
        have HO : Hid (rightS l = false) := by
          show _ = _
          unfold rightS
          rw [decide_eq_false_iff_not]
          rintro ⟨_, _, h⟩
          have := h _ (List.getElem_mem hkl)
          rw [hc, ho] at this
          cases this
        clear ho hc
        go_wp2_with (go_at_call 54; refine (HBY.out _).mono ?_; rintro e w1 ⟨rfl, rfl⟩)
        go_ret
        exact ⟨by rw [HO.out]; rfl, rfl⟩
    · have HO : Hid (rightS l = true) := by
        show _ = _
        unfold rightS
        rw [decide_eq_true_eq]
        refine ⟨by omega, by omega, fun c hc => ?_⟩
        obtain ⟨j, hj, rfl⟩ := List.getElem_of_mem hc
        exact HALL.out j hj (by omega)
      go_wp2
      go_ret
      exact ⟨by rw [HO.out]; rfl, rfl⟩
end Go.Proofs.Ytlnhhgmdajbepaa
