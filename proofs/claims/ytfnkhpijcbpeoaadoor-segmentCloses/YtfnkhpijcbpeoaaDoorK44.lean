/- Own texts, joined: MkR, Rdec. -/
import Derived.Test.YtfnkhpijcbpeoaaDoorK24
import Derived.Test.YtfnkhpijcbpeoaaDoorRows
import Derived.Test.YtfnkhpijcbpeoaaDoorK00
namespace Go.Proofs.YtfnkhpijcbpeoaaDoor
open Go.ChangeShapes Go.WideShapes Go.ChangeAt Go.RowKit
set_option linter.unusedVariables false
set_option maxRecDepth 20000 in
set_option maxHeartbeats 4000000 in
theorem rvalid_any (L : List Mk) (n : Nat) (a : Option Addr) (cap : Nat) (w : World) (hn : L.length = n) (hm : Marks w a L) (hl : n ≤ maxLen) :
    Calls Tryd.prog 44 #[.slice a n cap] w fun e w' => e = .returned (.bool (validB L)) ∧ Below w.heap.size w w' := by
  unfold maxLen at hl
  by_cases h5 : n ≤ 512
  · have HV : Hid (validB L = vfrom 0 (-1) (L.drop 0)) := by show _ = _; rw [validB_short (by omega)]; rfl
    have HN : Hid (L.length = n) := hn
    have h5I : (n : Int) ≤ 512 := by omega
    rcases hm with rfl | ⟨b, off, rfl, hlt, hc⟩
    · obtain rfl : n = 0 := by simpa using hn.symm
      have HF : Hid (validB [] = true) := HV.out
      clear HV hn
      go_enter Tryd.func44, Tryd.ntmps44
      go_wp2
      refine wp_loop_rounds 1 ?_
      rw [rounds_succ]
      go_wp2
      go_ret
      exact ⟨ret_bool (by rw [HF.out]), Below.refl _ _⟩
    · clear hn hl
      go_enter Tryd.func44, Tryd.ntmps44
      go_wp2
      go_loopw [9] (fun vi wr => ∃ (k n0 : Nat) (s y : Int), k ≤ n ∧ vi = .int .i64 k ∧ wr = w.drewN n0 ∧ 0 ≤ s ∧ -1 ≤ y ∧ (k = 0 ∧ s = 0 ∧ y = -1 ∨ ∃ j, k = j + 1 ∧ L[j]? = some (s, y)) ∧ validB L = vfrom s y (L.drop k)) (fun vi _ => n - (intOf vi).toNat)
      case atStart => exact ⟨0, 0, 0, -1, Nat.zero_le _, rfl, rfl, by omega, by omega, .inl ⟨rfl, rfl, rfl⟩, HV.out⟩
      case round =>
        obtain ⟨k, n0, s, y, hk, rfl, rfl, hs, hy, hpre, hv⟩ := hrel
        have HVK : Hid (validB L = vfrom s y (L.drop k)) := hv
        clear hv HV
        by_cases hkn : k < n
        · obtain ⟨⟨x, z⟩, hp⟩ := get_of_lt (L := L) (k := k) (by rw [HN.out]; exact hkn)
          obtain ⟨c0, c1⟩ := Marks.cells hc k (x, z) hp
          have HVN : Hid (validB L = if x ≤ s ∨ z ≤ y ∨ 1099511627776 < x ∨ 1099511627776 < z then false else vfrom x z (L.drop (k + 1))) := by show _ = _; rw [HVK.out, drop_get L k _ hp, vfrom_cons]
          simp only at c0 c1
          have HP : Hid (L[k]? = some (x, z)) := hp
          rcases hpre with ⟨rfl, rfl, rfl⟩ | ⟨j, rfl, hj⟩
          · clear hp hc HVK
            simp only [Nat.zero_mul, Nat.add_zero] at c0 c1
            go_wp2
            all_goals first
              | (go_ret; exact ⟨ret_bool (by rw [HVN.out, if_pos (by omega)]), below_drewN (Below.refl _ _) _⟩)
              | skip
            go_quiet (fail)
            go_wp2
            refine ⟨⟨1, n0 + nq, x, z, by omega, by go_num, by first | rfl | exact drewN_add _ _ _, by omega, by omega, .inr ⟨0, rfl, HP.out⟩, by rw [HVN.out, if_neg (by omega)]⟩, by simp [intOf]; omega⟩
          · obtain ⟨d0, d1⟩ := Marks.cells hc j (s, y) hj
            simp only at d0 d1
            clear hp hc HVK hj
            go_wp2
            all_goals first
              | (go_ret; exact ⟨ret_bool (by rw [HVN.out, if_pos (by omega)]), below_drewN (Below.refl _ _) _⟩)
              | skip
            by_cases hx : x ≤ s
            · go_quiet (fail)
              go_wp2
              go_ret
              exact ⟨ret_bool (by rw [HVN.out, if_pos (by omega)]), by first | exact below_drewN (Below.refl _ _) _ | exact below_drewN (below_drewN (Below.refl _ _) _) _⟩
            · by_cases hz : z ≤ y
              · go_quiet (fail)
                go_wp2
                go_ret
                exact ⟨ret_bool (by rw [HVN.out, if_pos (by omega)]), by first | exact below_drewN (Below.refl _ _) _ | exact below_drewN (below_drewN (Below.refl _ _) _) _⟩
              · go_quiet (fail)
                go_wp2
                refine ⟨⟨j + 1 + 1, n0 + nq, x, z, by omega, by go_num, by first | rfl | exact drewN_add _ _ _, by omega, by omega, .inr ⟨j + 1, rfl, HP.out⟩, by rw [HVN.out, if_neg (by omega)]⟩, by simp [intOf]; omega⟩
        · have HT : Hid (validB L = true) := by show _ = _; rw [HVK.out, List.drop_eq_nil_of_le (by rw [HN.out]; omega)]; rfl
          clear HVK hc hpre
          go_wp2
          go_ret
          exact ⟨ret_bool (by rw [HT.out]), below_drewN (Below.refl _ _) _⟩
  · have HF : Hid (validB L = false) := validB_long (by omega)
    clear hm hn
    go_enter Tryd.func44, Tryd.ntmps44
    go_wp2
    go_ret
    exact ⟨ret_bool (by rw [HF.out]), Below.refl _ _⟩
end Go.Proofs.YtfnkhpijcbpeoaaDoor
namespace Go.Proofs.YtfnkhpijcbpeoaaDoor
open Go.ChangeShapes Go.WideShapes Go.ChangeAt Go.RowKit
theorem val7_append (l : List Nat) (c : Nat) : val7 (l ++ [c]) = val7 l + c % 128 * 128 ^ l.length := by
  induction l with
  | nil => simp [val7]
  | cons x r ih =>
    simp only [List.cons_append, val7, List.length_cons]
    rw [ih, Nat.pow_succ]
    grind
theorem val7_lt (l : List Nat) : val7 l < 128 ^ l.length := by
  induction l with
  | nil => simp [val7]
  | cons x r ih =>
    simp only [val7, List.length_cons]
    rw [Nat.pow_succ]
    omega
theorem val7_drop (l : List Nat) (j : Nat) : val7 (l.drop j) ≤ val7 l := by
  induction l generalizing j with
  | nil => simp
  | cons x r ih =>
    cases j with
    | zero => simp
    | succ j =>
      have := ih j
      simp only [List.drop_succ_cons, val7]
      omega
theorem take_snoc_at (l : List Nat) (k c : Nat) (h : k < l.length) (hc : c = l.getD k 0) : l.take (k + 1) = l.take k ++ [c] := by
  subst hc
  rw [List.take_succ_eq_append_getElem h, List.getD_eq_getElem?_getD, List.getElem?_eq_getElem h]; rfl
theorem dec_stop (l : List Nat) (k : Nat) (hk : k ≤ l.length) (hk9 : k ≤ 9) (h : ∀ j, j < k → 128 ≤ l.getD j 0) : dec 0 0 l = dec k (val7 (l.take k)) (l.drop k) := by
  induction k with
  | zero => simp [val7]
  | succ k ih =>
    rw [ih (by omega) (by omega) (fun j hj => h j (by omega)), drop_at l k _ (by omega) rfl, dec_cons]
    have := h k (by omega)
    rw [if_neg (by omega), if_pos this, take_snoc_at l k _ (by omega) rfl, val7_append, List.length_take, Nat.min_eq_left (by omega)]
theorem val7_top (l : List Nat) (k c : Nat) (h : k < l.length) (hc : c = l.getD k 0) (h256 : c < 256) (hk : k ≤ 8 ∨ (k = 9 ∧ c ≤ 1)) : val7 (l.take (k + 1)) ≤ 18446744073709551615 := by
  have h1 := val7_lt (l.take k)
  rw [List.length_take, Nat.min_eq_left (by omega)] at h1
  have h2 := or_step _ c k h1 h256 hk
  rw [take_snoc_at l k c h hc, val7_append, List.length_take, Nat.min_eq_left (by omega)]
  omega
theorem drop_take_step (l : List Nat) (k j c : Nat) (h : k < l.length) (hj : j ≤ k) (hc : c = l.getD j 0) : val7 ((l.take (k + 1)).drop j) = c % 128 + 128 * val7 ((l.take (k + 1)).drop (j + 1)) := by
  have h1 : j < (l.take (k + 1)).length := by rw [List.length_take]; omega
  have h2 : c = (l.take (k + 1)).getD j 0 := by
    rw [hc, List.getD_eq_getElem?_getD, List.getD_eq_getElem?_getD, List.getElem?_take, if_pos (by omega)]
  rw [drop_at _ j c h1 h2]
  rfl
set_option maxRecDepth 20000 in
set_option maxHeartbeats 2000000 in
theorem rdec_any (l : List Nat) (a : Option Addr) (cap : Nat) (w : World) (hb : Bytes w a l) (hl : l.length ≤ maxLen) :
    Calls Tryd.prog 21 #[.slice a l.length cap] w fun e w' => e = .returned (.tuple #[.int .u64 (dec 0 0 l).1, .int .i64 (dec 0 0 l).2.1, .int .i64 (dec 0 0 l).2.2]) ∧ w = w' := by
  unfold maxLen at hl
  obtain ⟨hby, rfl | ⟨b, off, rfl, hlt, hcell⟩⟩ := hb
  · go_enter Tryd.func21, Tryd.ntmps21
    go_wp2
    refine wp_loop_rounds 1 ?_
    rw [rounds_succ]
    go_wp2
    go_ret3
    exact ⟨rfl, rfl⟩
  · go_enter Tryd.func21, Tryd.ntmps21
    go_wp2
    go_loop [5] (fun i => ∃ k : Nat, k ≤ l.length ∧ k ≤ 9 ∧ i = .int .i64 k ∧ ∀ j, j < k → 128 ≤ l.getD j 0) (fun i => l.length - (intOf i).toNat)
    case atStart => exact ⟨0, Nat.zero_le _, by omega, rfl, fun j hj => by omega⟩
    case round =>
      obtain ⟨k, hk, hk9, rfl, hj⟩ := hrel
      have HJ : Hid (∀ j, j < k → 128 ≤ l.getD j 0) := hj
      have HD : Hid (_ = _) := dec_stop l k hk hk9 hj
      clear hj
      have HCELL : Hid (∀ i, i < l.length → w.cell? ⟨b, off + i, none⟩ = some (.int .u8 (l.getD i 0 : Nat))) := hcell
      have HBY : Hid (∀ i, l.getD i 0 < 256) := hby
      by_cases hkl : k < l.length
      · have hc := hcell k hkl
        have hc256 := hby k
        obtain ⟨c, hcE⟩ : ∃ c, c = l.getD k 0 := ⟨_, rfl⟩
        rw [← hcE] at hc hc256
        have HC : Hid (c = l.getD k 0) := hcE
        clear hcE hcell hby
        have HT : Hid (c < 128 → ¬ (k = 9 ∧ 1 < c) → ¬ (c = 0 ∧ 0 < k) → dec 0 0 l = (val7 (l.take (k + 1)), k + 1, 0)) := by
          show _ → _
          intro h1 h2 h3
          rw [HD.out, drop_at l k c hkl HC.out, dec_cons, if_neg h2, if_neg (by omega), if_neg h3, take_snoc_at l k c hkl HC.out, val7_append, List.length_take, Nat.min_eq_left (by omega)]
        have HV : Hid (k ≤ 8 ∨ (k = 9 ∧ c ≤ 1) → val7 (l.take (k + 1)) ≤ 18446744073709551615) := fun h => val7_top l k c hkl HC.out hc256 h
        have HDC : Hid (dec 0 0 l = if k = 9 ∧ 1 < c then (0, 0, 12) else if 128 ≤ c then dec (k + 1) (val7 (l.take k) + c % 128 * 128 ^ k) (l.drop (k + 1)) else if c = 0 ∧ 0 < k then (0, 0, 11) else (val7 (l.take k) + c % 128 * 128 ^ k, k + 1, 0)) := by
          show _ = _
          rw [HD.out, drop_at l k c hkl HC.out, dec_cons]
        clear HD
        have hkb : k < 9 ∨ k = 9 := by omega
        rcases hkb with hk8 | rfl
        · have hkn : ((k : Int) == 9) = false := by simp; omega
          have hkl2 : ((k : Int) == (l.length : Int)) = false := by simp; omega
          by_cases hc128 : 128 ≤ c
          · go_wp2
            go_round
            case rel =>
              refine ⟨k + 1, by omega, by omega, by go_num, fun j hj => ?_⟩
              by_cases hjk : j < k
              · exact HJ.out j hjk
              · obtain rfl : j = k := by omega
                rw [← HC.out]; exact hc128
            case measure => first | (simp [intOf]; done) | (simp [intOf]; omega)
          · have hc128' : (c : Int) < 128 := by omega
            have hgeq : ¬ (128 : Int) ≤ (c : Int) := by omega
            by_cases h11 : c = 0 ∧ 0 < k
            · have HE : Hid (dec 0 0 l = (0, 0, 11)) := by
                show _ = _
                rw [HDC.out, if_neg (by omega), if_neg hc128, if_pos h11]
              have hc0 : ((c : Int) == 0) = true := by simp; omega
              have hk0 : (0 : Int) < (k : Int) := by omega
              clear HDC HT HV HJ HBY HCELL HC hc128 h11
              go_wp2
              go_ret3
              exact ⟨by rw [HE.out]; rfl, rfl⟩
            · have HE : Hid (_ = _) := HT.out (by omega) (by omega) h11
              have hval := HV.out (by omega)
              clear HDC HT HV HJ HC hc128
              by_cases hk0 : 0 < k
              · have hc0 : ((c : Int) == 0) = false := by simp; omega
                have hk0' : (0 : Int) < (k : Int) := by omega
                clear h11 hk0
                go_wp2
                go_loop [6, 7] (fun vu vi => ∃ j u : Nat, j ≤ k + 1 ∧ vu = .int .u64 u ∧ u = val7 ((l.take (k + 1)).drop j) ∧ ((j = 0 ∧ vi = .int .i64 (-1)) ∨ ∃ j' : Nat, j = j' + 1 ∧ vi = .int .i64 j')) (fun _ vi => (intOf vi + 1).toNat)
                case atStart => exact ⟨k + 1, 0, Nat.le_refl _, rfl, by rw [List.drop_eq_nil_of_le (by rw [List.length_take]; omega)]; rfl, .inr ⟨k, rfl, rfl⟩⟩
                case round =>
                  obtain ⟨j, u, hjk, rfl, hu, hvi⟩ := hrel
                  have HU : Hid (u = val7 ((l.take (k + 1)).drop j)) := hu
                  clear hu
                  rcases hvi with ⟨rfl, rfl⟩ | ⟨j', rfl, rfl⟩
                  · clear HCELL HBY
                    go_wp2
                    go_ret3
                    rw [HE.out]
                    exact ⟨ret3 (by rw [HU.out]; rfl) rfl rfl, rfl⟩
                  · have hd := HCELL.out j' (by omega)
                    have hd256 := HBY.out j'
                    obtain ⟨d, hdE⟩ : ∃ d, d = l.getD j' 0 := ⟨_, rfl⟩
                    rw [← hdE] at hd hd256
                    have HS : Hid (_ = _) := drop_take_step l k j' d hkl (by omega) hdE
                    have hB1 := val7_drop (l.take (k + 1)) j'
                    rw [HS.out, ← HU.out] at hB1
                    have hB2 : (u : Int) * 128 + (d : Int) % 128 ≤ 18446744073709551615 := by omega
                    have hB3 : (u : Int) * 128 ≤ 18446744073709551615 := by omega
                    have hjl : (j' : Int) < (l.length : Int) := by omega
                    clear hB1 hdE
                    go_wp2
                    go_round
                    case rel =>
                      refine ⟨j', u * 128 + d % 128, by omega, by go_num, by rw [HS.out, ← HU.out]; omega, ?_⟩
                      cases j' with
                      | zero => exact .inl ⟨rfl, rfl⟩
                      | succ j'' => exact .inr ⟨j'', rfl, by go_num⟩
                    case measure => first | (simp [intOf]; done) | (simp [intOf]; omega)
              · have hk0' : ¬ (0 : Int) < (k : Int) := by omega
                clear h11 hk0
                go_wp2
                go_loop [6, 7] (fun vu vi => ∃ j u : Nat, j ≤ k + 1 ∧ vu = .int .u64 u ∧ u = val7 ((l.take (k + 1)).drop j) ∧ ((j = 0 ∧ vi = .int .i64 (-1)) ∨ ∃ j' : Nat, j = j' + 1 ∧ vi = .int .i64 j')) (fun _ vi => (intOf vi + 1).toNat)
                case atStart => exact ⟨k + 1, 0, Nat.le_refl _, rfl, by rw [List.drop_eq_nil_of_le (by rw [List.length_take]; omega)]; rfl, .inr ⟨k, rfl, rfl⟩⟩
                case round =>
                  obtain ⟨j, u, hjk, rfl, hu, hvi⟩ := hrel
                  have HU : Hid (u = val7 ((l.take (k + 1)).drop j)) := hu
                  clear hu
                  rcases hvi with ⟨rfl, rfl⟩ | ⟨j', rfl, rfl⟩
                  · clear HCELL HBY
                    go_wp2
                    go_ret3
                    rw [HE.out]
                    exact ⟨ret3 (by rw [HU.out]; rfl) rfl rfl, rfl⟩
                  · have hd := HCELL.out j' (by omega)
                    have hd256 := HBY.out j'
                    obtain ⟨d, hdE⟩ : ∃ d, d = l.getD j' 0 := ⟨_, rfl⟩
                    rw [← hdE] at hd hd256
                    have HS : Hid (_ = _) := drop_take_step l k j' d hkl (by omega) hdE
                    have hB1 := val7_drop (l.take (k + 1)) j'
                    rw [HS.out, ← HU.out] at hB1
                    have hB2 : (u : Int) * 128 + (d : Int) % 128 ≤ 18446744073709551615 := by omega
                    have hB3 : (u : Int) * 128 ≤ 18446744073709551615 := by omega
                    have hjl : (j' : Int) < (l.length : Int) := by omega
                    clear hB1 hdE
                    go_wp2
                    go_round
                    case rel =>
                      refine ⟨j', u * 128 + d % 128, by omega, by go_num, by rw [HS.out, ← HU.out]; omega, ?_⟩
                      cases j' with
                      | zero => exact .inl ⟨rfl, rfl⟩
                      | succ j'' => exact .inr ⟨j'', rfl, by go_num⟩
                    case measure => first | (simp [intOf]; done) | (simp [intOf]; omega)
        · have hkl2 : ((9 : Int) == (l.length : Int)) = false := by simp; omega
          by_cases hc1 : 1 < c
          · have HE : Hid (dec 0 0 l = (0, 0, 12)) := by
              show _ = _
              rw [HDC.out, if_pos ⟨rfl, hc1⟩]
            have hc1' : (1 : Int) < (c : Int) := by omega
            clear HDC HT HV HJ HBY HCELL HC hc1
            go_wp2
            go_ret3
            exact ⟨by rw [HE.out]; rfl, rfl⟩
          · have hc1' : ¬ (1 : Int) < (c : Int) := by omega
            by_cases h11 : c = 0
            · have HE : Hid (dec 0 0 l = (0, 0, 11)) := by
                show _ = _
                rw [HDC.out, if_neg (by omega), if_neg (by omega), if_pos (by omega)]
              have hc0 : ((c : Int) == 0) = true := by simp; omega
              clear HDC HT HV HJ HBY HCELL HC hc1 h11
              go_wp2
              go_ret3
              exact ⟨by rw [HE.out]; rfl, rfl⟩
            · have HE : Hid (_ = _) := HT.out (by omega) (by omega) (by omega)
              have hval := HV.out (by omega)
              have hc0 : ((c : Int) == 0) = false := by simp; omega
              clear HDC HT HV HJ HC hc1 h11
              go_wp2
              go_loop [6, 7] (fun vu vi => ∃ j u : Nat, j ≤ 9 + 1 ∧ vu = .int .u64 u ∧ u = val7 ((l.take (9 + 1)).drop j) ∧ ((j = 0 ∧ vi = .int .i64 (-1)) ∨ ∃ j' : Nat, j = j' + 1 ∧ vi = .int .i64 j')) (fun _ vi => (intOf vi + 1).toNat)
              case atStart => exact ⟨9 + 1, 0, Nat.le_refl _, rfl, by rw [List.drop_eq_nil_of_le (by rw [List.length_take]; omega)]; rfl, .inr ⟨9, rfl, rfl⟩⟩
              case round =>
                obtain ⟨j, u, hjk, rfl, hu, hvi⟩ := hrel
                have HU : Hid (u = val7 ((l.take (9 + 1)).drop j)) := hu
                clear hu
                rcases hvi with ⟨rfl, rfl⟩ | ⟨j', rfl, rfl⟩
                · clear HCELL HBY
                  go_wp2
                  go_ret3
                  rw [HE.out]
                  exact ⟨ret3 (by rw [HU.out]; rfl) rfl rfl, rfl⟩
                · have hd := HCELL.out j' (by omega)
                  have hd256 := HBY.out j'
                  obtain ⟨d, hdE⟩ : ∃ d, d = l.getD j' 0 := ⟨_, rfl⟩
                  rw [← hdE] at hd hd256
                  have HS : Hid (_ = _) := drop_take_step l 9 j' d hkl (by omega) hdE
                  have hB1 := val7_drop (l.take (9 + 1)) j'
                  rw [HS.out, ← HU.out] at hB1
                  have hB2 : (u : Int) * 128 + (d : Int) % 128 ≤ 18446744073709551615 := by omega
                  have hB3 : (u : Int) * 128 ≤ 18446744073709551615 := by omega
                  have hjl : (j' : Int) < (l.length : Int) := by omega
                  clear hB1 hdE
                  go_wp2
                  go_round
                  case rel =>
                    refine ⟨j', u * 128 + d % 128, by omega, by go_num, by rw [HS.out, ← HU.out]; omega, ?_⟩
                    cases j' with
                    | zero => exact .inl ⟨rfl, rfl⟩
                    | succ j'' => exact .inr ⟨j'', rfl, by go_num⟩
                  case measure => first | (simp [intOf]; done) | (simp [intOf]; omega)
      · have hkl2 : ((k : Int) == (l.length : Int)) = true := by simp; omega
        have HE : Hid (dec 0 0 l = (0, 0, 10)) := by
          show _ = _
          rw [HD.out, List.drop_eq_nil_of_le (by omega)]; rfl
        clear HD HJ hcell hby HBY HCELL
        go_wp2
        go_ret3
        exact ⟨by rw [HE.out]; rfl, rfl⟩
theorem rdec_at (l : List Nat) (n u k e : Nat) (a : Option Addr) (cap : Nat) (w : World) (e1 : l.length = n) (hd : dec 0 0 l = (u, k, e)) (hb : Bytes w a l) (hl : l.length ≤ maxLen) :
    Calls Tryd.prog 21 #[.slice a n cap] w fun x w' => x = .returned (.tuple #[.int .u64 u, .int .i64 k, .int .i64 e]) ∧ w = w' := by
  subst e1
  refine (rdec_any l a cap w hb hl).mono ?_
  rw [hd]
  exact fun _ _ h => h
end Go.Proofs.YtfnkhpijcbpeoaaDoor
