/- Decimal numbers as lists of bytes: what strconv's two functions and the document's way say is one. -/
import Derived.Test.YtdjldbhglaohkaaDoorNm0
namespace Go.Proofs.YtdjldbhglaohkaaDoor
set_option linter.unusedVariables false
def isD (c : UInt8) : Prop := 48 ≤ c.toNat ∧ c.toNat ≤ 57
def dv (acc : Nat) (l : List UInt8) : Nat := l.foldl (fun a c => 10 * a + (c.toNat - 48)) acc
theorem dv_snoc (acc : Nat) (l : List UInt8) (c : UInt8) : dv acc (l ++ [c]) = 10 * dv acc l + (c.toNat - 48) := by simp [dv]
theorem dv_ge : ∀ (l : List UInt8) (acc : Nat), acc ≤ dv acc l
  | [], acc => Nat.le_refl _
  | c :: r, acc => by
    have := dv_ge r (10 * acc + (c.toNat - 48))
    show acc ≤ dv (10 * acc + (c.toNat - 48)) r
    omega
theorem dv_take (l : List UInt8) (k : Nat) : dv 0 (l.take k) ≤ dv 0 l := by
  have h : dv 0 l = dv (dv 0 (l.take k)) (l.drop k) := by
    have e : dv 0 (l.take k ++ l.drop k) = dv (dv 0 (l.take k)) (l.drop k) := by simp only [dv, List.foldl_append]
    rwa [List.take_append_drop] at e
  rw [h]
  exact dv_ge _ _
theorem dg_of {c : UInt8} (h : isD c) : dg (c.toNat - 48) = c := by
  unfold dg
  rw [show 48 + (c.toNat - 48) = c.toNat from by have := h.1; omega, UInt8.ofNat_toNat]
theorem dd_digits : ∀ (n u : Nat), u ≤ n → ∀ c ∈ Lib.decDigits u, isD c
  | 0, u, h, c, hc => by
    rw [dd_one u (by omega)] at hc
    simp at hc; subst hc
    unfold isD; rw [dg_toNat _ (by omega)]; omega
  | n + 1, u, h, c, hc => by
    by_cases h10 : u < 10
    · rw [dd_one u h10] at hc
      simp at hc; subst hc
      unfold isD; rw [dg_toNat _ (by omega)]; omega
    · rw [dd_step u (by omega)] at hc
      rcases List.mem_append.1 hc with hc | hc
      · exact dd_digits n (u / 10) (by omega) c hc
      · simp at hc; subst hc
        unfold isD; rw [dg_toNat _ (by omega)]; omega
theorem dd_val : ∀ (n u : Nat), u ≤ n → dv 0 (Lib.decDigits u) = u
  | 0, u, h => by
    rw [dd_one u (by omega)]
    show 10 * 0 + ((dg u).toNat - 48) = u
    rw [dg_toNat _ (by omega)]; omega
  | n + 1, u, h => by
    by_cases h10 : u < 10
    · rw [dd_one u h10]
      show 10 * 0 + ((dg u).toNat - 48) = u
      rw [dg_toNat _ (by omega)]; omega
    · rw [dd_step u (by omega), dv_snoc, dd_val n (u / 10) (by omega), dg_toNat _ (by omega)]
      omega
theorem dd_ne (u : Nat) : Lib.decDigits u ≠ [] := by
  by_cases h : u < 10
  · rw [dd_one u h]; simp
  · rw [dd_step u (by omega)]; simp
theorem dd_head : ∀ (n u : Nat), u ≤ n → 1 ≤ u → (Lib.decDigits u).head? ≠ some 48
  | 0, u, h, h1 => by omega
  | n + 1, u, h, h1 => by
    by_cases h10 : u < 10
    · rw [dd_one u h10]
      intro hh
      simp at hh
      have := congrArg UInt8.toNat hh
      rw [dg_toNat _ (by omega)] at this
      have e : (48 : UInt8).toNat = 48 := rfl
      omega
    · rw [dd_step u (by omega)]
      have ih := dd_head n (u / 10) (by omega) (by omega)
      cases hd : Lib.decDigits (u / 10) with
      | nil => exact absurd hd (dd_ne _)
      | cons a r => rw [hd] at ih; simpa using ih
theorem dd_len : ∀ (n u : Nat), u ≤ n → ∀ k, u < 10 ^ (k + 1) → (Lib.decDigits u).length ≤ k + 1
  | n, u, h, 0, hk => by
    rw [dd_one u (by simpa using hk)]
    simp
  | 0, u, h, k + 1, hk => by
    rw [dd_one u (by omega)]
    simp
  | n + 1, u, h, k + 1, hk => by
    by_cases h10 : u < 10
    · rw [dd_one u h10]; simp
    · rw [dd_step u (by omega), List.length_append]
      have := dd_len n (u / 10) (by omega) k (by rw [Nat.pow_succ] at hk; exact Nat.div_lt_of_lt_mul (by rw [Nat.mul_comm]; exact hk))
      simp only [List.length_cons, List.length_nil]
      omega
theorem snoc_of {α : Type} (l : List α) (h : l ≠ []) : ∃ m c, l = m ++ [c] := ⟨l.dropLast, l.getLast h, (List.dropLast_concat_getLast h).symm⟩
/-- digits without a nought ahead are those of their number -/
theorem dd_back : ∀ (n : Nat) (l : List UInt8), l.length ≤ n → l ≠ [] → (∀ c ∈ l, isD c) → l.head? ≠ some 48 → Lib.decDigits (dv 0 l) = l ∧ 1 ≤ dv 0 l
  | 0, l, h, hne, hd, hh => absurd (List.length_eq_zero_iff.1 (by omega)) hne
  | n + 1, l, h, hne, hd, hh => by
    obtain ⟨m, c, rfl⟩ := snoc_of l hne
    have hc : isD c := hd c (by simp)
    have hc1 := hc.1
    have hc2 := hc.2
    rw [dv_snoc]
    by_cases hm : m = []
    · subst hm
      have e0 : dv 0 [] = 0 := rfl
      rw [e0]
      have h48 : c.toNat ≠ 48 := fun e => hh (by
        have : c = 48 := UInt8.toNat_inj.1 e
        rw [this]; rfl)
      refine ⟨?_, by omega⟩
      rw [dd_one _ (by omega), show 10 * 0 + (c.toNat - 48) = c.toNat - 48 from by omega, dg_of hc]
      rfl
    · have hhm : m.head? ≠ some 48 := by
        cases m with
        | nil => exact absurd rfl hm
        | cons a r => simpa using hh
      obtain ⟨i1, i2⟩ := dd_back n m (by simp at h; omega) hm (fun x hx => hd x (by simp [hx])) hhm
      refine ⟨?_, by omega⟩
      rw [dd_step _ (by omega), show (10 * dv 0 m + (c.toNat - 48)) / 10 = dv 0 m from by omega, show (10 * dv 0 m + (c.toNat - 48)) % 10 = c.toNat - 48 from by omega, i1, dg_of hc]
theorem pu_ok : ∀ (l : List UInt8) (acc : Nat), (∀ c ∈ l, isD c) → dv acc l < 18446744073709551616 → Lib.parseUint10 acc l = .ok (dv acc l)
  | [], acc, _, _ => rfl
  | c :: r, acc, hd, h => by
    have hc := hd c (by simp)
    have hc1 := hc.1
    have hc2 := hc.2
    have h2 : dv acc (c :: r) = dv (10 * acc + (c.toNat - 48)) r := rfl
    have h3 := dv_ge r (10 * acc + (c.toNat - 48))
    rw [h2] at h ⊢
    rw [Lib.parseUint10, if_pos ⟨hc1, hc2⟩, if_neg (by omega), if_neg (by omega), show acc * 10 + (c.toNat - 48) = 10 * acc + (c.toNat - 48) from by omega]
    exact pu_ok r _ (fun x hx => hd x (by simp [hx])) h
def inI64 (v : Int) : Prop := -9223372036854775808 ≤ v ∧ v ≤ 9223372036854775807
theorem atoi_itoa (v : Int) (h : inI64 v) : Lib.atoiAll (Lib.itoa v) = .ok v := by
  obtain ⟨h1, h2⟩ := h
  unfold Lib.itoa
  split
  · rename_i hneg
    have e1 : Lib.parseMag (Lib.decDigits v.natAbs) = .ok v.natAbs := by
      unfold Lib.parseMag
      rw [if_neg (dd_ne _), pu_ok _ 0 (dd_digits _ _ (Nat.le_refl _)) (by rw [dd_val _ _ (Nat.le_refl _)]; omega), dd_val _ _ (Nat.le_refl _)]
    have e45 : (45 : UInt8).toNat = 45 := rfl
    rw [Lib.atoiAll]
    simp only [e45]
    rw [if_pos (Or.inr trivial), e1]
    simp only
    rw [if_neg (by simp), if_neg (by omega), if_pos trivial]
    congr 1
    omega
  · rename_i hneg
    have e1 : Lib.parseMag (Lib.decDigits v.toNat) = .ok v.toNat := by
      unfold Lib.parseMag
      rw [if_neg (dd_ne _), pu_ok _ 0 (dd_digits _ _ (Nat.le_refl _)) (by rw [dd_val _ _ (Nat.le_refl _)]; omega), dd_val _ _ (Nat.le_refl _)]
    cases hd : Lib.decDigits v.toNat with
    | nil => exact absurd hd (dd_ne _)
    | cons c r =>
      have hc := dd_digits _ _ (Nat.le_refl _) c (by rw [hd]; simp)
      have hc1 := hc.1
      have hc2 := hc.2
      rw [hd] at e1
      rw [Lib.atoiAll]
      rw [if_neg (by omega), e1]
      simp only
      rw [if_neg (by omega), if_neg (by omega), if_neg (by omega)]
      congr 1
      omega
theorem atoi_range {l : List UInt8} {v : Int} (h : Lib.atoiAll l = .ok v) : inI64 v := by
  unfold Lib.atoiAll at h
  cases l with
  | nil => cases h
  | cons c r =>
    simp only at h
    split at h
    · cases h
    · cases h
    · split at h
      · cases h
      · split at h
        · cases h
        · split at h
          · cases h; unfold inI64; omega
          · cases h; unfold inI64; omega
def nmR (l : List UInt8) : Option Int := match Lib.atoiAll l with
  | .ok v => if Lib.itoa v = l then some v else none
  | _ => none
theorem nmR_iff (l : List UInt8) (v : Int) : nmR l = some v ↔ inI64 v ∧ l = Lib.itoa v := by
  constructor
  · intro h
    unfold nmR at h
    split at h
    · rename_i u hu
      split at h
      · rename_i he
        cases h
        exact ⟨atoi_range hu, he.symm⟩
      · cases h
    · cases h
  · rintro ⟨h1, rfl⟩
    unfold nmR
    rw [atoi_itoa v h1]
    simp
/-- what stands behind the sign -/
def dsOf (l : List UInt8) : List UInt8 := if l.head? = some 45 then l.drop 1 else l
def rnOk (l : List UInt8) : Prop := dsOf l ≠ [] ∧ (dsOf l).length ≤ 19 ∧ ¬ ((dsOf l).head? = some 48 ∧ 1 < l.length) ∧ (∀ c ∈ dsOf l, isD c) ∧ dv 0 (dsOf l) ≤ 9223372036854775808 ∧ (l.head? = some 45 ∨ dv 0 (dsOf l) ≠ 9223372036854775808)
def rnV (l : List UInt8) : Int := if l.head? = some 45 then -(dv 0 (dsOf l) : Int) else dv 0 (dsOf l)
theorem rn_some {l : List UInt8} (h : rnOk l) : nmR l = some (rnV l) := by
  obtain ⟨h1, h2, h3, h4, h5, h6⟩ := h
  rw [nmR_iff]
  by_cases hm : l.head? = some 45
  · have hds : dsOf l = l.drop 1 := by unfold dsOf; rw [if_pos hm]
    have hv : rnV l = -(dv 0 (dsOf l) : Int) := by unfold rnV; rw [if_pos hm]
    obtain ⟨r, rfl⟩ : ∃ r, l = 45 :: r := by
      cases l with
      | nil => cases hm
      | cons a r => simp at hm; subst hm; exact ⟨r, rfl⟩
    have hr : dsOf (45 :: r) = r := hds
    rw [hr] at h1 h2 h3 h4 h5 hv
    have hh : r.head? ≠ some 48 := fun e => h3 ⟨e, by cases r with | nil => cases e | cons a b => simp⟩
    obtain ⟨b1, b2⟩ := dd_back _ r (Nat.le_refl _) h1 h4 hh
    rw [hv]
    refine ⟨by unfold inI64; omega, ?_⟩
    unfold Lib.itoa
    rw [if_pos (by omega), show (-(dv 0 r : Int)).natAbs = dv 0 r from by omega, b1]
  · have hds : dsOf l = l := by unfold dsOf; rw [if_neg hm]
    have hv : rnV l = (dv 0 l : Int) := by unfold rnV; rw [if_neg hm, hds]
    rw [hds] at h1 h2 h3 h4 h5 h6
    have h7 : dv 0 l ≠ 9223372036854775808 := by rcases h6 with h6 | h6; exact absurd h6 hm; exact h6
    rw [hv]
    refine ⟨by unfold inI64; omega, ?_⟩
    unfold Lib.itoa
    rw [if_neg (by omega), show ((dv 0 l : Nat) : Int).toNat = dv 0 l from by omega]
    by_cases hh : l.head? = some 48
    · have hl : ¬ 1 < l.length := fun e => h3 ⟨hh, e⟩
      obtain ⟨c, rfl⟩ : ∃ c, l = [c] := by
        cases l with
        | nil => exact absurd rfl h1
        | cons a r => cases r with
          | nil => exact ⟨a, rfl⟩
          | cons b q => simp at hl
      simp at hh
      subst hh
      rw [show dv 0 [48] = 0 from rfl, dd_one 0 (by omega)]
      rfl
    · exact (dd_back _ l (Nat.le_refl _) h1 h4 hh).1.symm
theorem rn_none {l : List UInt8} (h : ¬ rnOk l) : nmR l = none := by
  cases hn : nmR l with
  | none => rfl
  | some v =>
    exfalso
    apply h
    rw [nmR_iff] at hn
    obtain ⟨⟨h1, h2⟩, rfl⟩ := hn
    have p19 : (10 : Nat) ^ (18 + 1) = 10000000000000000000 := by decide
    by_cases hneg : v < 0
    · have e : Lib.itoa v = 45 :: Lib.decDigits v.natAbs := by unfold Lib.itoa; rw [if_pos hneg]
      have hds : dsOf (Lib.itoa v) = Lib.decDigits v.natAbs := by rw [e]; rfl
      unfold rnOk
      rw [hds, e]
      refine ⟨dd_ne _, dd_len _ _ (Nat.le_refl _) 18 (by rw [p19]; omega), fun hh => dd_head _ _ (Nat.le_refl _) (by omega) hh.1, dd_digits _ _ (Nat.le_refl _), by rw [dd_val _ _ (Nat.le_refl _)]; omega, .inl rfl⟩
    · have e : Lib.itoa v = Lib.decDigits v.toNat := by unfold Lib.itoa; rw [if_neg hneg]
      have hd := dd_digits v.toNat _ (Nat.le_refl _)
      have hm : (Lib.decDigits v.toNat).head? ≠ some 45 := by
        cases hx : Lib.decDigits v.toNat with
        | nil => simp
        | cons c r =>
          have := hd c (by rw [hx]; simp)
          intro hh
          simp at hh
          subst hh
          have := this.1
          have e45 : (45 : UInt8).toNat = 45 := rfl
          omega
      have hds : dsOf (Lib.itoa v) = Lib.decDigits v.toNat := by rw [e]; unfold dsOf; rw [if_neg hm]
      unfold rnOk
      rw [hds, e]
      refine ⟨dd_ne _, dd_len _ _ (Nat.le_refl _) 18 (by rw [p19]; omega), fun hh => ?_, hd, by rw [dd_val _ _ (Nat.le_refl _)]; omega, .inr (by rw [dd_val _ _ (Nat.le_refl _)]; omega)⟩
      by_cases h0 : v.toNat = 0
      · rw [h0, dd_one 0 (by omega)] at hh
        simp at hh
      · exact dd_head _ _ (Nat.le_refl _) (by omega) hh.1
end Go.Proofs.YtdjldbhglaohkaaDoor
