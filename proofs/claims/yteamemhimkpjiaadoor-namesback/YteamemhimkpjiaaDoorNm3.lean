/- daybookref15.Parse. -/
import Derived.Test.YteamemhimkpjiaaDoorNm2
namespace Go.Proofs.YteamemhimkpjiaaDoor
open Go.ChangeShapes Go.WideShapes Go.ChangeAt Go.RowKit
set_option linter.unusedVariables false
def fld6 (l : List UInt8) : Int := l.foldl (fun a c => 10 * a + (c.toNat : Int) - 48) 0
theorem fld6_snoc (l : List UInt8) (c : UInt8) : fld6 (l ++ [c]) = 10 * fld6 l + (c.toNat : Int) - 48 := by
  unfold fld6
  rw [List.foldl_append]
  rfl
theorem fld6_bound (l : List UInt8) : -(30 * (10 ^ l.length : Nat) - 25 : Int) ≤ fld6 l ∧ fld6 l ≤ (30 * (10 ^ l.length : Nat) - 25 : Int) := by
  rw [← l.reverse_reverse]
  induction l.reverse with
  | nil => simp [fld6]
  | cons c r ih =>
    rw [List.reverse_cons, fld6_snoc, List.length_append]
    have hc : c.toNat < 256 := c.toNat_lt
    have e : (10 : Nat) ^ (r.reverse.length + [c].length) = 10 ^ r.reverse.length * 10 := by
      rw [show r.reverse.length + [c].length = r.reverse.length + 1 from rfl, Nat.pow_succ]
    rw [e]
    generalize 10 ^ r.reverse.length = Q at *
    omega
theorem fld6_small (l : List UInt8) (h : l.length ≤ 6) : -30000000 ≤ fld6 l ∧ fld6 l ≤ 30000000 := by
  have hb := fld6_bound l
  have h2 : 10 ^ l.length ≤ 10 ^ 6 := Nat.pow_le_pow_right (by omega) h
  rw [show (10 : Nat) ^ 6 = 1000000 from by decide] at h2
  generalize 10 ^ l.length = Q at *
  omega
theorem take_next (l : List UInt8) (k : Nat) (h : k < l.length) : l.take (k + 1) = l.take k ++ [l[k]] := by
  rw [List.take_succ_eq_append_getElem h]
theorem wrap3 (S : Int) (c : Nat) (h : -30000000 ≤ S ∧ S ≤ 30000000) (hc : c < 256) : wrap64 (wrap64 (10 * S + wrap64 (c : Int)) - 48) = 10 * S + (c : Int) - 48 := by
  unfold wrap64
  omega
set_option maxRecDepth 20000 in
set_option maxHeartbeats 1000000 in
theorem rparse_any (l : List UInt8) (w : World) (hl : l.length ≤ 281474976710656) :
    Calls Tryd.prog 13 #[.string (bs l)] w fun e w' => e = .returned (.tuple #[.int .i64 (prsK l), .int .i64 (prsN l)]) ∧ Below w.heap.size w w' := by
  by_cases hm : l = manL
  · subst hm
    clear hl
    go_enter Tryd.func13, Tryd.ntmps13
    go_wp2
    go_ret2
    exact ⟨by rfl, Below.refl _ _⟩
  by_cases ht : l = tmpL
  · subst ht
    clear hl
    go_enter Tryd.func13, Tryd.ntmps13
    go_wp2
    go_ret2
    exact ⟨by rfl, Below.refl _ _⟩
  have HM : Hid (l ≠ manL) := hm
  have HTm : Hid (l ≠ tmpL) := ht
  have q1 := ne_man hm
  have q2 := ne_tmp ht
  clear hm ht
  by_cases h6 : l.length < 6
  · have HP : Hid (prsK l = 0 ∧ prsN l = 0) := prs_small l HM.out HTm.out (.inl h6)
    have h6I : (l.length : Int) < 6 := by omega
    go_enter Tryd.func13, Tryd.ntmps13
    go_wp2
    go_ret2
    exact ⟨ret2i HP.out.1.symm HP.out.2.symm, Below.refl _ _⟩
  obtain ⟨b0, hb0⟩ : ∃ b0, l.length = b0 + 6 := ⟨l.length - 6, by omega⟩
  have h6I : ¬ (l.length : Int) < 6 := by omega
  have hbI : (l.length : Int) - 6 = (b0 : Int) := by omega
  have hlI : (l.length : Int) ≤ 281474976710656 := by omega
  have HL6 : Hid (fld6 ((l.drop b0).take 6) = last6 l) := by
    show _ = _
    unfold last6 fld6
    rw [hb0, Nat.add_sub_cancel, List.take_of_length_le (by rw [List.length_drop]; omega)]
  have HB0 : Hid (l.length = b0 + 6) := hb0
  clear hb0 h6
  go_enter Tryd.func13, Tryd.ntmps13
  go_wp2
  go_loop [4, 5] (fun vn vi => ∃ k : Nat, k ≤ 6 ∧ vi = .int .i64 ((b0 + k : Nat) : Int) ∧ vn = .int .i64 (fld6 ((l.drop b0).take k))) (fun _ vi => l.length - (intOf vi).toNat)
  case atStart => exact ⟨0, by omega, rfl, rfl⟩
  case round =>
    obtain ⟨k, hk, rfl, rfl⟩ := hrel
    have hbd := fld6_small ((l.drop b0).take k) (by rw [List.length_take]; omega)
    by_cases hk6 : k < 6
    · have hkl : b0 + k < l.length := by have := HB0.out; omega
      have HST : Hid (fld6 ((l.drop b0).take (k + 1)) = 10 * fld6 ((l.drop b0).take k) + ((l[b0 + k]'hkl).toNat : Int) - 48) := by
        show _ = _
        rw [take_next _ k (by rw [List.length_drop]; omega), fld6_snoc, List.getElem_drop]
      obtain ⟨S, hS⟩ : ∃ S, fld6 ((l.drop b0).take k) = S := ⟨_, rfl⟩
      rw [hS] at hbd HST ⊢
      have hkI : ((b0 + k : Nat) : Int) < (l.length : Int) := by omega
      have d1 : decide (((b0 + k : Nat) : Int) < (l.length : Int)) = true := by simp; omega
      obtain ⟨i, hi⟩ : ∃ i, b0 + k = i := ⟨_, rfl⟩
      clear hS
      go_wp2
      go_round
      case rel => exact ⟨k + 1, by omega, by rw [← Nat.add_assoc, hi]; go_num, by rw [HST.out]; subst hi; exact congrArg (Value.int IntKind.i64) (wrap3 S _ hbd (UInt8.toNat_lt _))⟩
      case measure => simp [intOf]; omega
    · obtain rfl : k = 6 := by omega
      rw [HL6.out] at hbd ⊢
      have d1 : decide (((b0 + 6 : Nat) : Int) < (l.length : Int)) = false := by have := HB0.out; simp; omega
      obtain ⟨i, hi⟩ : ∃ i, b0 + 6 = i := ⟨_, rfl⟩
      have hge : (l.length : Int) ≤ (i : Int) := by have := HB0.out; omega
      have hge2 : ¬ i < l.length := by have := HB0.out; omega
      rw [hi] at d1 ⊢
      obtain ⟨S, hS⟩ : ∃ S, last6 l = S := ⟨_, rfl⟩
      rw [hS] at hbd ⊢
      have HS : Hid (last6 l = S) := hS
      clear hi hS
      by_cases g1 : S < 1
      · have HP : Hid (prsK l = 0 ∧ prsN l = 0) := prs_small l HM.out HTm.out (.inr (.inl (by rw [HS.out]; exact g1)))
        go_wp2
        go_ret2
        exact ⟨ret2i HP.out.1.symm HP.out.2.symm, Below.refl _ _⟩
      have g1' : 1 ≤ S := by omega
      by_cases g2 : 999999 < S
      · have HP : Hid (prsK l = 0 ∧ prsN l = 0) := prs_small l HM.out HTm.out (.inr (.inr (by rw [HS.out]; exact g2)))
        go_wp2
        go_ret2
        exact ⟨ret2i HP.out.1.symm HP.out.2.symm, Below.refl _ _⟩
      have g2' : S ≤ 999999 := by omega
      clear g1 g2
      by_cases s1 : l = nameL segH S
      · have HP : Hid (prsK l = 3 ∧ prsN l = S) := by have h := prs_seg l HM.out HTm.out (by have := HB0.out; omega) (by rw [HS.out]; exact g1') (by rw [HS.out]; exact g2') (by rw [HS.out]; exact s1); rw [HS.out] at h; exact h
        have HX : Hid (nameL segH S = l) := s1.symm
        clear s1
        go_wp2_with (go_at_call 9; refine (rsegment_any S _).mono ?_; rw [HX.out]; rintro e w1 ⟨rfl, hb1⟩)
        go_ret2
        exact ⟨ret2i HP.out.1.symm HP.out.2.symm, hb1⟩
      obtain ⟨X, hX⟩ : ∃ X, nameL segH S = X := ⟨_, rfl⟩
      have HX : Hid (nameL segH S = X) := hX
      have HS1 : Hid (¬ l = nameL segH S) := s1
      rw [hX] at s1
      have s1b : (l == X) = false := by simpa using s1
      clear hX s1
      by_cases s2 : l = nameL bookH S
      · have HP : Hid (prsK l = 4 ∧ prsN l = S) := by have h := prs_book l HM.out HTm.out (by have := HB0.out; omega) (by rw [HS.out]; exact g1') (by rw [HS.out]; exact g2') (by rw [HS.out]; exact HS1.out) (by rw [HS.out]; exact s2); rw [HS.out] at h; exact h
        have HY : Hid (nameL bookH S = l) := s2.symm
        clear s2
        go_wp2_with (first
          | (go_at_call 9; refine (rsegment_any S _).mono ?_; rw [HX.out]; rintro e w1 ⟨rfl, hb1⟩)
          | (go_at_call 11; refine (rbook_any S _).mono ?_; rw [HY.out]; rintro e w2 ⟨rfl, hb2⟩))
        go_ret2
        exact ⟨ret2i HP.out.1.symm HP.out.2.symm, hb1.trans (hb2.mono hb1.size)⟩
      · have HP : Hid (prsK l = 0 ∧ prsN l = 0) := prs_none l HM.out HTm.out (by rw [HS.out]; exact HS1.out) (by rw [HS.out]; exact s2)
        obtain ⟨Y, hY⟩ : ∃ Y, nameL bookH S = Y := ⟨_, rfl⟩
        have HY : Hid (nameL bookH S = Y) := hY
        rw [hY] at s2
        have s2b : (l == Y) = false := by simpa using s2
        clear hY s2
        go_wp2_with (first
          | (go_at_call 9; refine (rsegment_any S _).mono ?_; rw [HX.out]; rintro e w1 ⟨rfl, hb1⟩)
          | (go_at_call 11; refine (rbook_any S _).mono ?_; rw [HY.out]; rintro e w2 ⟨rfl, hb2⟩))
        go_ret2
        exact ⟨ret2i HP.out.1.symm HP.out.2.symm, hb1.trans (hb2.mono hb1.size)⟩
end Go.Proofs.YteamemhimkpjiaaDoor
