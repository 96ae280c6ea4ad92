/- What daybookref03.Turn answers. -/
import Derived.Test.YtfclpkfbfdeegaaDoorCopy
import Derived.Test.YtfclpkfbfdeegaaDoorCrc
namespace Go.Proofs.YtfclpkfbfdeegaaDoor
open Go.ChangeShapes Go.WideShapes Go.ChangeAt Go.RowKit
theorem two_pow_mul_xor (n a b : Nat) : 2 ^ n * (a ^^^ b) = 2 ^ n * a ^^^ 2 ^ n * b := by
  apply Nat.eq_of_testBit_eq
  intro i
  rw [Nat.testBit_xor, Nat.testBit_two_pow_mul, Nat.testBit_two_pow_mul, Nat.testBit_two_pow_mul, Nat.testBit_xor]
  cases (decide (i ≥ n)) <;> simp
theorem val_set (l : List Nat) (k j : Nat) (h : k < l.length) (hj : j < 8) (hl : ∀ x ∈ l, x < 256) : Crcm.val (l.set k (l.getD k 0 ^^^ 2 ^ j)) = Crcm.val l ^^^ 2 ^ (8 * k + j) := by
  induction l generalizing k with
  | nil => simp at h
  | cons c r ih =>
    have hc : c < 2 ^ 8 := hl c (by simp)
    have hr : ∀ x ∈ r, x < 256 := fun x hx => hl x (by simp [hx])
    cases k with
    | zero =>
      have hp : (2 : Nat) ^ j < 2 ^ 8 := Nat.pow_lt_pow_right (by omega) hj
      show (c ^^^ 2 ^ j) + 2 ^ 8 * Crcm.val r = (c + 2 ^ 8 * Crcm.val r) ^^^ 2 ^ (8 * 0 + j)
      rw [Crcm.add_eq_xor 8 _ _ (Nat.xor_lt_two_pow hc hp), Crcm.add_eq_xor 8 _ _ hc, Nat.mul_zero, Nat.zero_add, Nat.xor_assoc, Nat.xor_assoc, Nat.xor_comm (2 ^ j)]
    | succ k =>
      have ih' := ih k (by simpa using h) hr
      show c + 2 ^ 8 * Crcm.val (r.set k (r.getD k 0 ^^^ 2 ^ j)) = (c + 2 ^ 8 * Crcm.val r) ^^^ 2 ^ (8 * (k + 1) + j)
      rw [ih', Crcm.add_eq_xor 8 _ _ hc, Crcm.add_eq_xor 8 _ _ hc, Nat.xor_assoc]
      rw [show 8 * (k + 1) + j = 8 + (8 * k + j) from by omega, Nat.pow_add 2 8 (8 * k + j), two_pow_mul_xor]
theorem B8_set (t : List Nat) (k v : Nat) : B8 (t.set k v) = (B8 t).set k (.int .u8 (v : Nat)) := by simp [B8, List.map_set]
theorem pow_lt_256 (j : Nat) (h : j < 8) : 2 ^ j < 256 := Nat.pow_lt_pow_right (n := 8) (by omega) h
theorem mod_step (P i : Nat) : P % 2 ^ (i + 1) = (P % 2 ^ i) ^^^ 2 ^ i * (P / 2 ^ i % 2) := by
  have h : P % 2 ^ (i + 1) = P % 2 ^ i + 2 ^ i * (P / 2 ^ i % 2) := by rw [Nat.pow_succ, Nat.mod_mul]
  rw [h, Crcm.add_eq_xor i _ _ (Nat.mod_lt _ (Nat.two_pow_pos i))]
/-- what the register of turned bits is behind i rounds -/
def turned (at0 P m i : Nat) : Nat := 2 ^ at0 * (P % 2 ^ (min i m))
theorem turned_on (at0 P m i : Nat) (h : i < m) (hb : P / 2 ^ i % 2 = 1) : turned at0 P m (i + 1) = turned at0 P m i ^^^ 2 ^ (at0 + i) := by
  unfold turned
  rw [Nat.min_eq_left (by omega), Nat.min_eq_left (by omega), mod_step, hb, Nat.mul_one, two_pow_mul_xor, Nat.pow_add]
theorem turned_off (at0 P m i : Nat) (h : m ≤ i ∨ P / 2 ^ i % 2 = 0) : turned at0 P m (i + 1) = turned at0 P m i := by
  unfold turned
  by_cases hm : m ≤ i
  · rw [Nat.min_eq_right (by omega), Nat.min_eq_right hm]
  · have h0 : P / 2 ^ i % 2 = 0 := by omega
    rw [Nat.min_eq_left (by omega), Nat.min_eq_left (by omega), mod_step, h0, Nat.mul_zero, Nat.xor_zero]
set_option maxRecDepth 100000 in
set_option maxHeartbeats 2000000 in
theorem turn_any (l : List Nat) (at0 P : Nat) (n : Nat) (b off cap : Nat) (w : World) (hn : l.length = n) (hb : Bytes w (some ⟨b, off, none⟩) l) (hne : l ≠ []) (hl : l.length ≤ 281474976710656) (hat : at0 < 8 * l.length) (hP : P < 4294967296) :
    Calls Tryd.prog 13 #[.slice (some ⟨b, off, none⟩) n cap, .int .i64 at0, .int .u32 P] w fun e w' => ∃ v t, e = .returned v ∧ t.length = l.length ∧ Own w' w.heap.size v t ∧ Crcm.val t = Crcm.val l ^^^ turned at0 P (8 * l.length - at0) 32 ∧ Below w.heap.size w w' := by
  subst hn
  obtain ⟨i0, hi, hz0, hz1, hz2⟩ := info_parts Tryd.info5c
  have hl3 : l.length ≤ maxLen := by unfold maxLen; omega
  have HBY : Hid (∀ i, l.getD i 0 < 256) := hb.1
  obtain ⟨b', off', hx, hlt, hcell⟩ := hb.nonempty hne
  cases hx
  have HCELL : Hid (∀ i, i < l.length → w.cell? ⟨b, off + i, none⟩ = some (.int .u8 (l.getD i 0 : Nat))) := hcell
  have hmem : ∀ x ∈ l, x < 256 := hb.mem
  have HMEM : Hid (∀ x ∈ l, x < 256) := hmem
  clear hcell hb hne hmem
  go_enter Tryd.func13, Tryd.ntmps13
  go_wp2_with (at_make; refine wpList_make_full _ rfl _ _ 22 rfl w.heap.size 5 i0 (.int .u8 0) 1 Tryd.underlying22 hi hz0 hz1 _ _ _ _ l.length rfl rfl rfl rfl (by rw [hz2]; omega) hl3 (Nat.le_refl _) ?_)
  intro w1 ho hg
  have hb1 : Below w.heap.size w w1 := (Below.refl _ _).grown hg (Nat.le_refl _) (fun k hk => by cases hk)
  clear hg
  have ho1 : w1.ownsRow w.heap.size 5 1 (.slice (some ⟨w.heap.size, 0, none⟩) l.length l.length) l.length (B8 (l.take 0) ++ List.replicate (l.length - 0) (Value.int .u8 0)) := by
    have h := ho
    rw [toList_madeCells_one] at h
    simpa [B8] using h
  clear ho
  go_wp2
  go_loopw [8, 16] (fun vi i wr => ∃ k : Nat, k ≤ l.length ∧ i = .int .i64 k ∧ wr.ownsRow w.heap.size 5 1 (.slice (some ⟨w.heap.size, 0, none⟩) l.length l.length) l.length (B8 (l.take k) ++ List.replicate (l.length - k) (Value.int .u8 0)) ∧ Below w.heap.size w wr) (fun _ i _ => l.length - (intOf i).toNat)
  case atStart => exact ⟨0, Nat.zero_le _, rfl, ho1, hb1⟩
  case round =>
    obtain ⟨k, hk, rfl, ho, hbe⟩ := hrel
    by_cases hkl : k < l.length
    · have e1 := HCELL.out k hkl
      rw [← hbe.cell (p := ⟨b, off + k, none⟩) hlt] at e1
      have hst := ho.stored k (.int .u8 (l.getD k 0 : Nat))
      rw [copy_step l k _ rfl hkl] at hst
      have e2 := ho.cellAt k (by omega)
      have e3 := ho.frozenAt k
      obtain ⟨z, hz⟩ : ∃ z, wr.cell? ⟨w.heap.size, k, none⟩ = some z := by
        rw [e2]
        exact ⟨_, List.getElem?_eq_getElem (by rw [List.length_append, List.length_replicate]; simp [B8]; omega)⟩
      have hb2 := hbe.grown hst.2 (by have := hbe.size; omega) (fun j hj => by cases hj; exact Nat.le_refl _)
      have HS : Hid (_ ∧ _) := ⟨hst.1, hb2⟩
      clear e2 hst hb2 ho hbe ho1 hb1
      obtain ⟨x, hx⟩ : ∃ x, x = l.getD k 0 := ⟨_, rfl⟩
      rw [← hx] at e1 HS
      clear hx hat hP
      go_wp2
      go_roundw
      case rel => exact ⟨k + 1, by omega, by go_num, HS.out.1, HS.out.2⟩
      case measure => simp [intOf]; omega
    · have hkl2 : k = l.length := by omega
      have hofull : wr.ownsRow w.heap.size 5 1 (.slice (some ⟨w.heap.size, 0, none⟩) l.length l.length) l.length (B8 l) := by
        have h := ho
        rw [hkl2, List.take_of_length_le (Nat.le_refl _), Nat.sub_self, List.replicate_zero, List.append_nil] at h
        exact h
      have HAT : Hid (at0 < 8 * l.length) := hat
      have HPL : Hid (P < 4294967296) := hP
      clear ho ho1 hb1 hkl2 HCELL hat hP
      go_wp2
      go_loopw [9, 10] (fun vi vk wr => ∃ (i : Nat) (t : List Nat), i ≤ 32 ∧ vi = .int .i64 i ∧ t.length = l.length ∧ (∀ x ∈ t, x < 256) ∧ wr.ownsRow w.heap.size 5 1 (.slice (some ⟨w.heap.size, 0, none⟩) l.length l.length) l.length (B8 t) ∧ Crcm.val t = Crcm.val l ^^^ turned at0 P (8 * l.length - at0) i ∧ Below w.heap.size w wr) (fun vi _ _ => 32 - (intOf vi).toNat)
      case atStart =>
        refine ⟨0, l, by omega, rfl, rfl, HMEM.out, hofull, ?_, hbe⟩
        unfold turned
        rw [Nat.zero_min, Nat.pow_zero, Nat.mod_one, Nat.mul_zero, Nat.xor_zero]
      case round =>
        obtain ⟨i, t, hi32, rfl, htl, htm, hot, hval, hbt⟩ := hrel
        clear hofull hbe
        by_cases hi : i < 32
        · have hatI : (at0 : Int) < 8 * (l.length : Int) := by have := HAT.out; omega
          have hlI : (l.length : Int) ≤ 281474976710656 := by omega
          clear hl hl3
          obtain ⟨K, J, hKJ, hJ8⟩ : ∃ K J, at0 + i = 8 * K + J ∧ J < 8 := ⟨(at0 + i) / 8, (at0 + i) % 8, by omega, by omega⟩
          have hK : ((at0 : Int) + (i : Int)) / 8 = (K : Int) := by omega
          have hJ : ((at0 : Int) + (i : Int)) % 8 = (J : Int) := by omega
          have HKJ : Hid (at0 + i = 8 * K + J) := hKJ
          have hbit : bits .and .u32 ((P : Int) / 2 ^ i) 1 = ((P / 2 ^ i % 2 : Nat) : Int) := by
            have h := u32_and_nat (P / 2 ^ i) 1 (Nat.lt_of_le_of_lt (Nat.div_le_self _ _) HPL.out) (by omega)
            rw [nat_mask1] at h
            rw [show ((P / 2 ^ i : Nat) : Int) = (P : Int) / 2 ^ i from by simp] at h
            exact h
          obtain ⟨bt, hbt2⟩ : ∃ bt, bt = P / 2 ^ i % 2 := ⟨_, rfl⟩
          rw [← hbt2] at hbit
          have HBT : Hid (bt = P / 2 ^ i % 2) := hbt2
          clear hKJ hbt2
          have H1 : Hid (_ = _) := hval
          have H3 : Hid (_ = _) := htl
          have H4 : Hid (∀ x ∈ t, x < 256) := htm
          by_cases hon : bt = 1 ∧ K < l.length
          · obtain ⟨rfl, hKl⟩ := hon
            have hKI : (K : Int) < (l.length : Int) := by omega
            have e2 := hot.cellAt K (by omega)
            rw [B8_get t K (by omega)] at e2
            have e3 := hot.frozenAt K
            have hc256 : t.getD K 0 < 256 := getD_lt htm K
            have hst := hot.stored K (.int .u8 (t.getD K 0 ^^^ 2 ^ J : Nat))
            have hb2 := hbt.grown hst.2 (by have := hbt.size; omega) (fun j hj => by cases hj; exact Nat.le_refl _)
            have hv2 := val_set t K J (by omega) hJ8 htm
            have HS : Hid (_ ∧ _) := ⟨hst.1, hb2⟩
            have HV : Hid (_ = _) := hv2
            obtain ⟨c, hcE⟩ : ∃ c, c = t.getD K 0 := ⟨_, rfl⟩
            have HCE : Hid (c = t.getD K 0) := hcE
            rw [← hcE] at e2 hc256
            have hxor : bits .xor .u8 (c : Int) (2 ^ J % 256) = ((c ^^^ 2 ^ J : Nat) : Int) := by
              have h := u8_xor_nat c (2 ^ J) hc256 (pow_lt_256 J hJ8)
              have hp := pow_lt_256 J hJ8
              have hq : ((2 ^ J : Nat) : Int) = (2 : Int) ^ J := by simp
              rw [← hq, show ((2 ^ J : Nat) : Int) % 256 = ((2 ^ J : Nat) : Int) from Int.emod_eq_of_lt (Int.natCast_nonneg _) (Int.ofNat_lt.2 hp)]
              exact h
            clear hval hot htl htm hst hb2 hv2 hcE hbt
            go_wp2
            go_region
            all_goals go_wp2
            go_roundw
            case rel =>
              refine ⟨i + 1, t.set K (t.getD K 0 ^^^ 2 ^ J), by omega, by go_num, by rw [List.length_set]; exact H3.out, ?_, ?_, ?_, ?_⟩
              · intro x hx
                rcases List.mem_or_eq_of_mem_set hx with h | h
                · exact H4.out x h
                · rw [h, ← HCE.out]
                  exact Nat.xor_lt_two_pow (n := 8) hc256 (pow_lt_256 J hJ8)
              · have h := HS.out.1
                rw [← HCE.out] at h ⊢
                rw [B8_set]
                exact h
              · rw [HV.out, H1.out, turned_on at0 P _ i (by have h1 := HKJ.out; have h2 := HAT.out; omega) HBT.out.symm, Nat.xor_assoc, HKJ.out]
              · have h := HS.out.2
                rw [← HCE.out] at h
                exact h.drew
            case measure => simp [intOf]; omega
          · have hoff : 8 * l.length - at0 ≤ i ∨ P / 2 ^ i % 2 = 0 := by
              have h1 := HBT.out
              have h2 := HKJ.out
              have h3 := HAT.out
              omega
            have HE : Hid (Crcm.val t = Crcm.val l ^^^ turned at0 P (8 * l.length - at0) (i + 1)) := by
              show _ = _
              rw [turned_off at0 P _ i hoff]; exact hval
            have H2 : Hid (_ ∧ _) := ⟨hot, hbt⟩
            clear hval hot htl htm hbt hoff
            by_cases hb1 : bt = 1
            · subst hb1
              have hKI : ¬ (K : Int) < (l.length : Int) := by omega
              clear hon
              go_wp2
              go_roundw
              case rel => exact ⟨i + 1, t, by omega, by go_num, H3.out, H4.out, H2.out.1, HE.out, H2.out.2⟩
              case measure => simp [intOf]; omega
            · have hbb : ((bt : Int) == 1) = false := by simp; omega
              clear hon
              go_wp2
              go_roundw
              case rel => exact ⟨i + 1, t, by omega, by go_num, H3.out, H4.out, H2.out.1, HE.out, H2.out.2⟩
              case measure => simp [intOf]; omega
        · have hi33 : i = 32 := by omega
          subst hi33
          have HO : Hid (_) := hot
          clear hl hl3
          go_wp2
          go_ret
          exact ⟨_, t, rfl, htl, ⟨getD_lt htm, by rw [htl]; exact HO.out⟩, hval, hbt⟩
end Go.Proofs.YtfclpkfbfdeegaaDoor
