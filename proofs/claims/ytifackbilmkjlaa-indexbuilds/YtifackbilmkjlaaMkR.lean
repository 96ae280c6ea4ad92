/- What the reference's Valid answers. -/
import Derived.Test.YtifackbilmkjlaaMkS
namespace Go.Proofs.Ytifackbilmkjlaa
open Go.ChangeShapes Go.WideShapes Go.ChangeAt Go.RowKit
set_option linter.unusedVariables false
set_option maxRecDepth 20000 in
set_option maxHeartbeats 4000000 in
theorem rvalid_any (L : List Mk) (n : Nat) (a : Option Addr) (cap : Nat) (w : World) (hn : L.length = n) (hm : Marks w a L) (hl : n ≤ maxLen) :
    Calls Try.prog 18 #[.slice a n cap] w fun e w' => e = .returned (.bool (validB L)) ∧ Below w.heap.size w w' := by
  unfold maxLen at hl
  by_cases h5 : n ≤ 512
  · have HV : Hid (validB L = vfrom 0 (-1) (L.drop 0)) := by show _ = _; rw [validB_short (by omega)]; rfl
    have HN : Hid (L.length = n) := hn
    have h5I : (n : Int) ≤ 512 := by omega
    rcases hm with rfl | ⟨b, off, rfl, hlt, hc⟩
    · obtain rfl : n = 0 := by simpa using hn.symm
      have HF : Hid (validB [] = true) := HV.out
      clear HV hn
      go_enter Try.func18, Try.ntmps18
      go_wp2
      refine wp_loop_rounds 1 ?_
      rw [rounds_succ]
      go_wp2
      go_ret
      exact ⟨ret_bool (by rw [HF.out]), Below.refl _ _⟩
    · clear hn hl
      go_enter Try.func18, Try.ntmps18
      go_wp2
      go_loopw [9] (fun vi wr => ∃ (k n0 : Nat) (s y : Int), k ≤ n ∧ vi = .int .i64 k ∧ wr = w.drewN n0 ∧ 0 ≤ s ∧ -1 ≤ y ∧ (k = 0 ∧ s = 0 ∧ y = -1 ∨ ∃ j, k = j + 1 ∧ L[j]? = some (s, y)) ∧ validB L = vfrom s y (L.drop k)) (fun vi _ => n - (intOf vi).toNat)
      case atStart => exact ⟨0, 0, 0, -1, Nat.zero_le _, rfl, rfl, by omega, by omega, .inl ⟨rfl, rfl, rfl⟩, HV.out⟩
      case round =>
        obtain ⟨k, n0, s, y, hk, rfl, rfl, hs, hy, hpre, hv⟩ := hrel
        have HVK : Hid (validB L = vfrom s y (L.drop k)) := hv
        clear hv HV
        by_cases hkn : k < n
        · obtain ⟨⟨x, z⟩, hp⟩ := get_of_lt (L := L) (k := k) (by rw [HN.out]; exact hkn)
          obtain ⟨c0, c1⟩ := Marks.cells hc k (x, z) hp
          have HVN : Hid (validB L = if x ≤ s ∨ z ≤ y ∨ 1099511627776 < x ∨ 1099511627776 < z then false else vfrom x z (L.drop (k + 1))) := by show _ = _; rw [HVK.out, drop_get L k _ hp, vfrom_cons]
          simp only at c0 c1
          have HP : Hid (L[k]? = some (x, z)) := hp
          rcases hpre with ⟨rfl, rfl, rfl⟩ | ⟨j, rfl, hj⟩
          · clear hp hc HVK
            simp only [Nat.zero_mul, Nat.add_zero] at c0 c1
            go_wp2
            all_goals first
              | (go_ret; exact ⟨ret_bool (by rw [HVN.out, if_pos (by omega)]), below_drewN (Below.refl _ _) _⟩)
              | skip
            go_quiet (fail)
            go_wp2
            refine ⟨⟨1, n0 + nq, x, z, by omega, by go_num, by first | rfl | exact drewN_add _ _ _, by omega, by omega, .inr ⟨0, rfl, HP.out⟩, by rw [HVN.out, if_neg (by omega)]⟩, by simp [intOf]; omega⟩
          · obtain ⟨d0, d1⟩ := Marks.cells hc j (s, y) hj
            simp only at d0 d1
            clear hp hc HVK hj
            go_wp2
            all_goals first
              | (go_ret; exact ⟨ret_bool (by rw [HVN.out, if_pos (by omega)]), below_drewN (Below.refl _ _) _⟩)
              | skip
            by_cases hx : x ≤ s
            · go_quiet (fail)
              go_wp2
              go_ret
              exact ⟨ret_bool (by rw [HVN.out, if_pos (by omega)]), by first | exact below_drewN (Below.refl _ _) _ | exact below_drewN (below_drewN (Below.refl _ _) _) _⟩
            · by_cases hz : z ≤ y
              · go_quiet (fail)
                go_wp2
                go_ret
                exact ⟨ret_bool (by rw [HVN.out, if_pos (by omega)]), by first | exact below_drewN (Below.refl _ _) _ | exact below_drewN (below_drewN (Below.refl _ _) _) _⟩
              · go_quiet (fail)
                go_wp2
                refine ⟨⟨j + 1 + 1, n0 + nq, x, z, by omega, by go_num, by first | rfl | exact drewN_add _ _ _, by omega, by omega, .inr ⟨j + 1, rfl, HP.out⟩, by rw [HVN.out, if_neg (by omega)]⟩, by simp [intOf]; omega⟩
        · have HT : Hid (validB L = true) := by show _ = _; rw [HVK.out, List.drop_eq_nil_of_le (by rw [HN.out]; omega)]; rfl
          clear HVK hc hpre
          go_wp2
          go_ret
          exact ⟨ret_bool (by rw [HT.out]), below_drewN (Below.refl _ _) _⟩
  · have HF : Hid (validB L = false) := validB_long (by omega)
    clear hm hn
    go_enter Try.func18, Try.ntmps18
    go_wp2
    go_ret
    exact ⟨ret_bool (by rw [HF.out]), Below.refl _ _⟩
end Go.Proofs.Ytifackbilmkjlaa
