/- Plain mathematics of indexes: there and back. -/
import Derived.Test.YtifackbilmkjlaaMkD
namespace Go.Proofs.Ytifackbilmkjlaa
open Go.ChangeShapes Go.WideShapes Go.ChangeAt Go.RowKit
set_option linter.unusedVariables false
theorem mkN_dls : ∀ (L acc : List Mk) (s a a' : Int), 0 ≤ s → 0 ≤ a → a ≤ a' + 1 → vfrom s a' L = true → mkN acc s a (dls s a L) = some (acc ++ L)
  | [], acc, s, a, a', _, _, _, _ => by simp [dls, mkN]
  | p :: r, acc, s, a, a', h0, h1, h2, hv => by
    obtain ⟨g1, g2, g3, g4, g5⟩ := vfrom_head hv
    show mkN acc s a ((p.1 - s).toNat :: (p.2 - a).toNat :: dls p.1 p.2 r) = _
    rw [mkN_cons, if_neg (by omega), show s + ((p.1 - s).toNat : Int) = p.1 from by omega, show a + ((p.2 - a).toNat : Int) = p.2 from by omega, mkN_dls r _ p.1 p.2 p.2 (by omega) (by omega) (by omega) g5]
    simp
theorem decAll_most (l r : List Nat) (most : Int) (hn : l.length ≤ 18446744073709551615) (hm : ∀ x ∈ l, x ≤ 18446744073709551615) (hmo : l.length ≤ most.toNat) : decAll (encAll l ++ r) most = (l, (encAll l).length, 0) := by
  have hd : dec 0 0 (encAll l ++ r) = (l.length, (enc l.length).length, 0) := by
    unfold encAll
    rw [List.append_assoc]
    exact dec_back _ _ hn
  unfold decAll
  rw [hd, if_neg (by simp), if_neg (by simp only; omega)]
  have h := decN_flat l hm (enc l.length) r []
  unfold encAll
  rw [List.append_assoc]
  rw [h]
  simp
theorem mDec_back (L : List Mk) (h : validB L = true) : mDec (mEnc L) = (L, 0) := by
  have hlen := valid_len h
  have hd := decAll_most (dls 0 0 L) [] 1024 (by rw [dls_length]; omega) (mEnc_le L h) (by rw [dls_length]; show _ ≤ 1024; omega)
  rw [List.append_nil] at hd
  have hk : mksR (dls 0 0 L) = (L, true) := by
    unfold mksR
    rw [dls_length, if_neg (by omega), mkN_dls L [] 0 0 (-1) (by omega) (by omega) (by omega) (valid_from h)]
    rfl
  rw [mEnc, mDec_eq hd, hk, if_neg (by simp [h])]
/-- what a list's numbers are read from -/
theorem decN_form : ∀ (c : Nat) (l : List Nat) (p : Nat) (acc R : List Nat) (q : Nat), (∀ x ∈ l, x < 256) → decN c l p acc = (R, q, 0) → ∃ rest : List Nat, R = acc ++ rest ∧ rest.length = c ∧ l.drop p = flat rest ++ l.drop q
  | 0, l, p, acc, R, q, hl, h => by
    have h1 : (acc, p, 0) = (R, q, 0) := h
    cases h1
    exact ⟨[], by simp, rfl, by simp [flat]⟩
  | c + 1, l, p, acc, R, q, hl, h => by
    obtain ⟨u, k, e, hd⟩ : ∃ u k e, dec 0 0 (l.drop p) = (u, k, e) := ⟨_, _, _, rfl⟩
    rw [decN_succ c l p acc u k e hd] at h
    by_cases he : e = 0
    · subst he
      rw [if_pos rfl] at h
      obtain ⟨rest, h1, h2, h3⟩ := decN_form c l (p + k) (acc ++ [u]) R q hl h
      have hf := dec_form (l.drop p) (fun x hx => hl x (List.mem_of_mem_drop hx)) (by rw [hd])
      rw [hd] at hf
      simp only at hf
      obtain ⟨f1, f2, f3, f4, f5⟩ := hf
      refine ⟨u :: rest, by rw [h1]; simp, by simp [h2], ?_⟩
      have hsp : (l.drop p).take k ++ (l.drop p).drop k = l.drop p := List.take_append_drop k _
      rw [List.drop_drop, ← f5, h3] at hsp
      rw [← hsp]
      simp [flat]
    · rw [if_neg he] at h
      have h5 := congrArg (fun x => x.2.2) h
      exact absurd h5 he
theorem decAll_form (l U : List Nat) (q : Nat) (hl : ∀ x ∈ l, x < 256) (h : decAll l 1024 = (U, q, 0)) : l = encAll U ++ l.drop q := by
  obtain ⟨u, k, e, hd⟩ : ∃ u k e, dec 0 0 l = (u, k, e) := ⟨_, _, _, rfl⟩
  unfold decAll at h
  rw [hd] at h
  simp only at h
  by_cases he : e = 0
  · subst he
    rw [if_neg (by simp)] at h
    by_cases hb : (1024 : Int).toNat < u
    · rw [if_pos hb] at h
      cases h
    · rw [if_neg hb] at h
      obtain ⟨rest, h1, h2, h3⟩ := decN_form u l k [] U q hl h
      have hf := dec_form l hl (by rw [hd])
      rw [hd] at hf
      simp only at hf
      obtain ⟨f1, f2, f3, f4, f5⟩ := hf
      have hsp : l.take k ++ l.drop k = l := List.take_append_drop k _
      rw [← f5, h3] at hsp
      rw [List.nil_append] at h1
      subst h1
      unfold encAll
      rw [h2, List.append_assoc]
      exact hsp.symm
  · rw [if_pos he] at h
    have h5 := congrArg (fun x => x.2.2) h
    exact absurd h5 he
theorem mkN_form : ∀ (n : Nat) (U : List Nat) (acc : List Mk) (s a : Int) (M : List Mk), U.length = 2 * n → mkN acc s a U = some M → ∃ L, M = acc ++ L ∧ dls s a L = U
  | 0, U, acc, s, a, M, hn, h => by
    have : U = [] := List.length_eq_zero_iff.1 (by omega)
    subst this
    have h1 : some acc = some M := h
    cases h1
    exact ⟨[], by simp, rfl⟩
  | n + 1, [], acc, s, a, M, hn, h => by simp at hn
  | n + 1, [x], acc, s, a, M, hn, h => by simp at hn; omega
  | n + 1, x :: y :: r, acc, s, a, M, hn, h => by
    rw [mkN_cons] at h
    split at h
    · cases h
    · obtain ⟨L, h1, h2⟩ := mkN_form n r (acc ++ [(s + x, a + y)]) (s + x) (a + y) M (by simp at hn; omega) h
      refine ⟨(s + x, a + y) :: L, by rw [h1]; simp, ?_⟩
      simp only [dls]
      rw [h2, show (s + (x : Int) - s).toNat = x from by omega, show (a + (y : Int) - a).toNat = y from by omega]
theorem mDec_ok (l : List Nat) (L : List Mk) (hl : ∀ x ∈ l, x < 256) (h : mDec l = (L, 0)) : validB L = true ∧ mEnc L = l := by
  obtain ⟨U, p, e, hd⟩ : ∃ U p e, decAll l 1024 = (U, p, e) := ⟨_, _, _, rfl⟩
  by_cases he : e = 0
  · subst he
    rw [mDec_eq hd] at h
    split at h
    · cases h
    · rename_i hno
      have hp : p = l.length := by
        by_cases hh : p = l.length
        · exact hh
        · exact absurd (.inl hh) hno
      have hok : (mksR U).2 = true := by
        cases hb : (mksR U).2 with
        | true => rfl
        | false => exact absurd (.inr (.inl hb)) hno
      have hv : validB (mksR U).1 = true := by
        cases hb : validB (mksR U).1 with
        | true => rfl
        | false => exact absurd (.inr (.inr hb)) hno
      have hL : (mksR U).1 = L := congrArg Prod.fst h
      rw [hL] at hv
      refine ⟨hv, ?_⟩
      have hev : U.length % 2 = 0 := by
        by_cases hh : U.length % 2 = 1
        · unfold mksR at hok
          rw [if_pos hh] at hok
          cases hok
        · omega
      have hmk : mkN [] 0 0 U = some L := by
        unfold mksR at hok hL
        rw [if_neg (by omega)] at hok hL
        cases hx : mkN [] 0 0 U with
        | none => rw [hx] at hok; cases hok
        | some M => rw [hx] at hL; simp only at hL; rw [hL]
      obtain ⟨M, h1, h2⟩ := mkN_form (U.length / 2) U [] 0 0 L (by omega) hmk
      rw [List.nil_append] at h1
      subst h1
      have hf := decAll_form l U p hl hd
      rw [hp, List.drop_length, List.append_nil] at hf
      unfold mEnc
      rw [h2]
      exact hf.symm
  · rw [mDec_bad hd he] at h
    have h5 := congrArg (fun x => x.2) h
    exact absurd h5 he
theorem mDec_err (l : List Nat) (h : (mDec l).2 ≠ 0) : (mDec l).1 = [] := by
  obtain ⟨U, p, e, hd⟩ : ∃ U p e, decAll l 1024 = (U, p, e) := ⟨_, _, _, rfl⟩
  by_cases he : e = 0
  · subst he
    rw [mDec_eq hd] at h ⊢
    split
    · rfl
    · rename_i hh
      rw [if_neg hh] at h
      exact absurd rfl h
  · rw [mDec_bad hd he]
theorem mEnc_len (L : List Mk) (h : validB L = true) : (mEnc L).length ≤ 10250 := by
  have h1 := flat_length (dls 0 0 L) (mEnc_le L h)
  have h2 := valid_len h
  have h3 := enc_length_le (2 * L.length) (by omega)
  unfold mEnc encAll
  rw [List.length_append, dls_length]
  rw [dls_length] at h1
  omega
end Go.Proofs.Ytifackbilmkjlaa
