/- The names of files as lists of bytes. -/
import Derived.Lib.AtoiAll
import Derived.Lib.ItoaNum
import Derived.Lib.Strings
namespace Go.Proofs.YtdjldbhglaohkaaDoor
set_option linter.unusedVariables false
def dg (d : Nat) : UInt8 := UInt8.ofNat (48 + d)
theorem dg_toNat (d : Nat) (h : d ≤ 9) : (dg d).toNat = 48 + d := by
  unfold dg
  rw [UInt8.toNat_ofNat']
  omega
def six (n : Nat) : List UInt8 := [dg (n / 100000), dg (n / 10000 % 10), dg (n / 1000 % 10), dg (n / 100 % 10), dg (n / 10 % 10), dg (n % 10)]
theorem six_length (n : Nat) : (six n).length = 6 := rfl
theorem dd_step (u : Nat) (h : 10 ≤ u) : Lib.decDigits u = Lib.decDigits (u / 10) ++ [dg (u % 10)] := by
  rw [Lib.decDigits, dif_neg (by omega)]
  rfl
theorem dd_one (u : Nat) (h : u < 10) : Lib.decDigits u = [dg u] := by
  rw [Lib.decDigits, dif_pos h]
  rfl
theorem itoa_six (n : Nat) (h : n ≤ 999999) : Lib.itoa (1000000 + (n : Int)) = dg 1 :: six n := by
  unfold Lib.itoa
  rw [if_neg (by omega), show (1000000 + (n : Int)).toNat = 1000000 + n from by omega]
  rw [dd_step _ (by omega), dd_step ((1000000 + n) / 10) (by omega), dd_step ((1000000 + n) / 10 / 10) (by omega), dd_step ((1000000 + n) / 10 / 10 / 10) (by omega), dd_step ((1000000 + n) / 10 / 10 / 10 / 10) (by omega), dd_step ((1000000 + n) / 10 / 10 / 10 / 10 / 10) (by omega), dd_one _ (by omega)]
  unfold six
  simp only [List.cons_append, List.nil_append]
  rw [show (1000000 + n) / 10 / 10 / 10 / 10 / 10 / 10 = 1 from by omega, show (1000000 + n) / 10 / 10 / 10 / 10 / 10 % 10 = n / 100000 from by omega, show (1000000 + n) / 10 / 10 / 10 / 10 % 10 = n / 10000 % 10 from by omega, show (1000000 + n) / 10 / 10 / 10 % 10 = n / 1000 % 10 from by omega, show (1000000 + n) / 10 / 10 % 10 = n / 100 % 10 from by omega, show (1000000 + n) / 10 % 10 = n / 10 % 10 from by omega, show (1000000 + n) % 10 = n % 10 from by omega]
theorem pu_step (acc d : Nat) (r : List UInt8) (hd : d ≤ 9) (ha : acc ≤ 999999) : Lib.parseUint10 acc (dg d :: r) = Lib.parseUint10 (acc * 10 + d) r := by
  rw [Lib.parseUint10, dg_toNat d hd, if_pos (by omega), if_neg (by omega), if_neg (by omega), show 48 + d - 48 = d from by omega]
theorem atoi_six (n : Nat) (h : n ≤ 999999) : Lib.atoiAll (six n) = .ok (n : Int) := by
  have hp : Lib.parseMag (six n) = .ok n := by
    unfold Lib.parseMag
    rw [if_neg (by simp [six])]
    unfold six
    rw [pu_step _ _ _ (by omega) (by omega), pu_step _ _ _ (by omega) (by omega), pu_step _ _ _ (by omega) (by omega), pu_step _ _ _ (by omega) (by omega), pu_step _ _ _ (by omega) (by omega), pu_step _ _ _ (by omega) (by omega)]
    rw [Lib.parseUint10]
    congr 1
    omega
  have hc := dg_toNat (n / 100000) (by omega)
  have e : six n = dg (n / 100000) :: [dg (n / 10000 % 10), dg (n / 1000 % 10), dg (n / 100 % 10), dg (n / 10 % 10), dg (n % 10)] := rfl
  rw [e, Lib.atoiAll]
  rw [e] at hp
  rw [hc, if_neg (by omega), hp]
  simp only
  rw [if_neg (by omega), if_neg (by omega), if_neg (by omega)]
/-- the number that the last six bytes would be -/
def last6 (l : List UInt8) : Int := (l.drop (l.length - 6)).foldl (fun a c => 10 * a + (c.toNat : Int) - 48) 0
theorem last6_six (h : List UInt8) (n : Nat) (hn : n ≤ 999999) : last6 (h ++ six n) = n := by
  unfold last6
  rw [List.length_append, six_length, Nat.add_sub_cancel, List.drop_left]
  unfold six
  simp only [List.foldl_cons, List.foldl_nil]
  rw [dg_toNat _ (by omega), dg_toNat _ (by omega), dg_toNat _ (by omega), dg_toNat _ (by omega), dg_toNat _ (by omega), dg_toNat _ (by omega)]
  omega
def nameL (h : List UInt8) (v : Int) : List UInt8 := if v < 1 ∨ 999999 < v then [] else h ++ six v.toNat
theorem trim_name (h x : List UInt8) : Lib.trimPrefix (h ++ x) h = x := by
  unfold Lib.trimPrefix Lib.hasPrefix
  rw [if_pos (by rw [List.isPrefixOf_iff_prefix]; exact List.prefix_append h x), List.drop_left]
theorem trim_nil (h : List UInt8) : Lib.trimPrefix [] h = [] := by
  unfold Lib.trimPrefix
  split <;> simp
def atoiV (l : List UInt8) : Int := match Lib.atoiAll l with | .ok v => v | .syntax => 0 | .range => Lib.atoiSat l
/-- what numberBehind answers -/
def numB (h l : List UInt8) : Int := if nameL h (atoiV (Lib.trimPrefix l h)) = l then atoiV (Lib.trimPrefix l h) else 0
theorem numB_name (h : List UInt8) (n : Nat) (h1 : 1 ≤ n) (h2 : n ≤ 999999) : numB h (h ++ six n) = n := by
  unfold numB
  have e : atoiV (Lib.trimPrefix (h ++ six n) h) = n := by
    rw [trim_name]
    unfold atoiV
    rw [atoi_six n h2]
  have e2 : nameL h (n : Int) = h ++ six n := by
    unfold nameL
    rw [if_neg (by omega), Int.toNat_natCast]
  rw [e, e2, if_pos rfl]
theorem numB_spec (h l : List UInt8) : numB h l = if 6 ≤ l.length ∧ 1 ≤ last6 l ∧ last6 l ≤ 999999 ∧ l = nameL h (last6 l) then last6 l else 0 := by
  by_cases hx : ∃ n : Nat, 1 ≤ n ∧ n ≤ 999999 ∧ l = h ++ six n
  · obtain ⟨n, h1, h2, rfl⟩ := hx
    rw [numB_name h n h1 h2, last6_six h n h2, if_pos]
    refine ⟨by rw [List.length_append, six_length]; omega, by omega, by omega, ?_⟩
    unfold nameL
    rw [if_neg (by omega), Int.toNat_natCast]
  · rw [if_neg]
    · unfold numB
      by_cases hn : nameL h (atoiV (Lib.trimPrefix l h)) = l
      · rw [if_pos hn]
        by_cases hr : atoiV (Lib.trimPrefix l h) < 1 ∨ 999999 < atoiV (Lib.trimPrefix l h)
        · unfold nameL at hn
          rw [if_pos hr] at hn
          subst hn
          rw [trim_nil]
          rfl
        · exfalso
          apply hx
          refine ⟨(atoiV (Lib.trimPrefix l h)).toNat, by omega, by omega, ?_⟩
          unfold nameL at hn
          rw [if_neg hr] at hn
          exact hn.symm
      · rw [if_neg hn]
    · rintro ⟨_, h1, h2, h3⟩
      apply hx
      refine ⟨(last6 l).toNat, by omega, by omega, ?_⟩
      unfold nameL at h3
      rw [if_neg (by omega)] at h3
      exact h3
def segH : List UInt8 := [115, 101, 103, 45]
def bookH : List UInt8 := [98, 111, 111, 107, 45]
def manL : List UInt8 := [109, 97, 110, 105, 102, 101, 115, 116]
def tmpL : List UInt8 := [109, 97, 110, 105, 102, 101, 115, 116, 46, 116, 109, 112]
/-- what Parse answers -/
def prsK (l : List UInt8) : Int := if l = manL then 1 else if l = tmpL then 2 else if numB segH l ≠ 0 then 3 else if numB bookH l ≠ 0 then 4 else 0
def prsN (l : List UInt8) : Int := if l = manL then 0 else if l = tmpL then 0 else if numB segH l ≠ 0 then numB segH l else numB bookH l
theorem name_range (h : List UInt8) (v : Int) (h1 : 1 ≤ v) (h2 : v ≤ 999999) : nameL h v = h ++ six v.toNat := by unfold nameL; rw [if_neg (by omega)]
theorem name_out (h : List UInt8) (v : Int) (h1 : v < 1 ∨ 999999 < v) : nameL h v = [] := by unfold nameL; rw [if_pos h1]
theorem prs_of (l : List UInt8) (hm : l ≠ manL) (ht : l ≠ tmpL) (a b : Int) (h1 : numB segH l = a) (h2 : numB bookH l = b) : prsK l = (if a ≠ 0 then 3 else if b ≠ 0 then 4 else 0) ∧ prsN l = (if a ≠ 0 then a else b) := by
  unfold prsK prsN
  rw [if_neg hm, if_neg hm, if_neg ht, if_neg ht, h1, h2]
  exact ⟨rfl, rfl⟩
/-- the reference's way to the same -/
theorem prs_small (l : List UInt8) (hm : l ≠ manL) (ht : l ≠ tmpL) (h : l.length < 6 ∨ last6 l < 1 ∨ 999999 < last6 l) : prsK l = 0 ∧ prsN l = 0 := by
  have h1 : numB segH l = 0 := by rw [numB_spec, if_neg (by omega)]
  have h2 : numB bookH l = 0 := by rw [numB_spec, if_neg (by omega)]
  have := prs_of l hm ht 0 0 h1 h2
  simpa using this
theorem prs_seg (l : List UInt8) (hm : l ≠ manL) (ht : l ≠ tmpL) (h6 : 6 ≤ l.length) (g1 : 1 ≤ last6 l) (g2 : last6 l ≤ 999999) (h : l = nameL segH (last6 l)) : prsK l = 3 ∧ prsN l = last6 l := by
  have h1 : numB segH l = last6 l := by rw [numB_spec, if_pos ⟨h6, g1, g2, h⟩]
  have := prs_of l hm ht _ _ h1 rfl
  rw [if_pos (by omega), if_pos (by omega)] at this
  exact this
theorem prs_book (l : List UInt8) (hm : l ≠ manL) (ht : l ≠ tmpL) (h6 : 6 ≤ l.length) (g1 : 1 ≤ last6 l) (g2 : last6 l ≤ 999999) (hs : ¬ l = nameL segH (last6 l)) (h : l = nameL bookH (last6 l)) : prsK l = 4 ∧ prsN l = last6 l := by
  have h1 : numB segH l = 0 := by rw [numB_spec, if_neg (fun hh => hs hh.2.2.2)]
  have h2 : numB bookH l = last6 l := by rw [numB_spec, if_pos ⟨h6, g1, g2, h⟩]
  have := prs_of l hm ht _ _ h1 h2
  rw [if_neg (by simp), if_pos (by omega), if_neg (by simp)] at this
  exact this
theorem prs_none (l : List UInt8) (hm : l ≠ manL) (ht : l ≠ tmpL) (hs : ¬ l = nameL segH (last6 l)) (h : ¬ l = nameL bookH (last6 l)) : prsK l = 0 ∧ prsN l = 0 := by
  have h1 : numB segH l = 0 := by rw [numB_spec, if_neg (fun hh => hs hh.2.2.2)]
  have h2 : numB bookH l = 0 := by rw [numB_spec, if_neg (fun hh => h hh.2.2.2)]
  have := prs_of l hm ht 0 0 h1 h2
  simpa using this
end Go.Proofs.YtdjldbhglaohkaaDoor
