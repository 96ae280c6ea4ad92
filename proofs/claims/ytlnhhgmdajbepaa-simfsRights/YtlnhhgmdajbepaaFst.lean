/- daybookref10.Right. -/
import Derived.Test.YtlnhhgmdajbepaaRgt
namespace Go.Proofs.Ytlnhhgmdajbepaa
open Go.ChangeShapes Go.WideShapes Go.ChangeAt Go.RowKit
set_option linter.unusedVariables false
set_option maxRecDepth 20000 in
set_option maxHeartbeats 1000000 in
theorem rright_any (l : List UInt8) (w : World) (hl : l.length ≤ 281474976710656) : Calls Try.prog 27 #[.string (bs l)] w fun e w' => e = .returned (.bool (rightS l)) ∧ w = w' := by
  have hlI : (l.length : Int) ≤ 281474976710656 := by omega
  by_cases h1 : l.length < 1
  · have HO : Hid (rightS l = false) := by show _ = _; unfold rightS; rw [decide_eq_false_iff_not]; omega
    have i1 : (l.length : Int) < 1 := by omega
    go_enter Try.func27, Try.ntmps27
    go_wp2
    go_ret
    exact ⟨by rw [HO.out]; rfl, rfl⟩
  by_cases h2 : 24 < l.length
  · have HO : Hid (rightS l = false) := by show _ = _; unfold rightS; rw [decide_eq_false_iff_not]; omega
    have i1 : ¬ (l.length : Int) < 1 := by omega
    have i2 : (24 : Int) < (l.length : Int) := by omega
    go_enter Try.func27, Try.ntmps27
    go_wp2
    go_ret
    exact ⟨by rw [HO.out]; rfl, rfl⟩
  have i1 : ¬ (l.length : Int) < 1 := by omega
  have i2 : ¬ (24 : Int) < (l.length : Int) := by omega
  go_enter Try.func27, Try.ntmps27
  go_wp2
  go_loop [3] (fun vi => ∃ k : Nat, k ≤ l.length ∧ vi = .int .i64 k ∧ ∀ j (hj : j < l.length), j < k → okc (l[j]).toNat = true) (fun vi => l.length - (intOf vi).toNat)
  case atStart => exact ⟨0, Nat.zero_le _, rfl, fun j hj h => by omega⟩
  case round =>
    obtain ⟨k, hk, rfl, hall⟩ := hrel
    have HALL : Hid (∀ j (hj : j < l.length), j < k → okc (l[j]).toNat = true) := hall
    clear hall
    by_cases hkl : k < l.length
    · have hkI : (k : Int) < (l.length : Int) := by omega
      obtain ⟨c, hc⟩ : ∃ c, (l[k]'hkl).toNat = c := ⟨_, rfl⟩
      have hc256 : c < 256 := by rw [← hc]; exact UInt8.toNat_lt _
      have hcI : (((bs l)[k]'hkl).toNat : Int) = (c : Int) := by rw [← hc]; rfl
      have HC : Hid ((l[k]'hkl).toNat = c) := hc
      clear hc
      by_cases ho : okc c = true
      · have HN : Hid (∀ j (hj : j < l.length), j < k + 1 → okc (l[j]).toNat = true) := fun j hj h => by
          by_cases hjk : j < k
          · exact HALL.out j hj hjk
          · obtain rfl : j = k := by omega
            rw [HC.out]; exact ho
        have hp : (97 ≤ c ∧ c ≤ 122) ∨ (48 ≤ c ∧ c ≤ 57) ∨ c = 45 ∨ c = 46 := by simpa [okc] using ho
        clear ho hc256
        go_wp2
        all_goals first
          | exact ⟨⟨k + 1, by omega, by go_num, HN.out⟩, by simp [intOf]; omega⟩
          | (exfalso; simp at *; omega)
      · have HO : Hid (rightS l = false) := by
          show _ = _
          unfold rightS
          rw [decide_eq_false_iff_not]
          rintro ⟨_, _, h⟩
          have := h _ (List.getElem_mem hkl)
          rw [HC.out] at this
          exact ho this
        have hp : ¬ ((97 ≤ c ∧ c ≤ 122) ∨ (48 ≤ c ∧ c ≤ 57) ∨ c = 45 ∨ c = 46) := by simpa [okc] using ho
        clear ho hc256
        go_wp2
        all_goals first
          | (go_ret; exact ⟨by rw [HO.out]; rfl, rfl⟩)
          | (exfalso; simp at *; omega)
    · have HO : Hid (rightS l = true) := by
        show _ = _
        unfold rightS
        rw [decide_eq_true_eq]
        refine ⟨by omega, by omega, fun c hc => ?_⟩
        obtain ⟨j, hj, rfl⟩ := List.getElem_of_mem hc
        exact HALL.out j hj (by omega)
      go_wp2
      go_ret
      exact ⟨by rw [HO.out]; rfl, rfl⟩
end Go.Proofs.Ytlnhhgmdajbepaa
