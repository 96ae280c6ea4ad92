/- Pairs of digits as lists of bytes. -/
import Derived.Test.YtomgnbhajhkhfaaDoorNm0
import Derived.Lib.Bytealg
import Derived.KernelRfl
namespace Go.Proofs.YtomgnbhajhkhfaaDoor
set_option linter.unusedVariables false
def digL : List UInt8 := [48, 49, 50, 51, 52, 53, 54, 55, 56, 57, 97, 98, 99, 100, 101, 102]
def hx (n : Nat) : UInt8 := digL.getD n 0
def hexL (l : List Nat) : List UInt8 := l.flatMap fun c => [hx (c / 16), hx (c % 16)]
def uhx (c : UInt8) : Int := Lib.indexByte digL c
def hxT (c : UInt8) : Bool := (uhx c == -1 && (List.range 16).all fun n => hx n != c) || (decide (0 ≤ uhx c) && decide (uhx c < 16) && hx (uhx c).toNat == c)
theorem hx_tab : ((List.range 256).all fun n => hxT (UInt8.ofNat n)) = true := by kernel_rfl
theorem hxT_all (c : UInt8) : hxT c = true := by
  have h := List.all_eq_true.1 hx_tab c.toNat (List.mem_range.2 c.toNat_lt)
  rwa [UInt8.ofNat_toNat] at h
theorem uhx_spec (c : UInt8) : (uhx c = -1 ∧ ∀ n, n < 16 → hx n ≠ c) ∨ (0 ≤ uhx c ∧ uhx c < 16 ∧ hx (uhx c).toNat = c) := by
  have h := hxT_all c
  unfold hxT at h
  rw [Bool.or_eq_true] at h
  rcases h with h | h
  · left
    rw [Bool.and_eq_true] at h
    refine ⟨by simpa using h.1, fun n hn => ?_⟩
    have := List.all_eq_true.1 h.2 n (List.mem_range.2 hn)
    simpa using this
  · right
    simp only [Bool.and_eq_true, decide_eq_true_eq, beq_iff_eq] at h
    exact ⟨h.1.1, h.1.2, h.2⟩
theorem hx_back : ((List.range 16).all fun n => uhx (hx n) == (n : Int)) = true := by kernel_rfl
theorem uhx_hx (n : Nat) (h : n < 16) : uhx (hx n) = n := by
  have := List.all_eq_true.1 hx_back n (List.mem_range.2 h)
  simpa using this
/-- the byte of two digits -/
def uh2 (a b : UInt8) : Option Nat := if uhx a < 0 ∨ uhx b < 0 then none else some (uhx a * 16 + uhx b).toNat
theorem uh2_some {a b : UInt8} {x : Nat} (h : uh2 a b = some x) : x < 256 ∧ hx (x / 16) = a ∧ hx (x % 16) = b ∧ 0 ≤ uhx a ∧ 0 ≤ uhx b ∧ uhx a < 16 ∧ uhx b < 16 ∧ (x : Int) = uhx a * 16 + uhx b := by
  unfold uh2 at h
  split at h
  · cases h
  · cases h
    rcases uhx_spec a with ha | ha
    · omega
    rcases uhx_spec b with hb | hb
    · omega
    have e1 : (uhx a * 16 + uhx b).toNat / 16 = (uhx a).toNat := by omega
    have e2 : (uhx a * 16 + uhx b).toNat % 16 = (uhx b).toNat := by omega
    rw [e1, e2]
    exact ⟨by omega, ha.2.2, hb.2.2, ha.1, hb.1, ha.2.1, hb.2.1, by omega⟩
theorem uh2_hx (x : Nat) (h : x < 256) : uh2 (hx (x / 16)) (hx (x % 16)) = some x := by
  unfold uh2
  rw [uhx_hx _ (by omega), uhx_hx _ (by omega), if_neg (by omega)]
  congr 1
  omega
theorem uh2_none {a b : UInt8} (h : uh2 a b = none) : (uhx a < 0 ∨ uhx b < 0) ∧ ∀ x, x < 256 → ¬ (hx (x / 16) = a ∧ hx (x % 16) = b) := by
  refine ⟨?_, fun x hx2 => ?_⟩
  · unfold uh2 at h
    split at h
    · assumption
    · cases h
  · rintro ⟨rfl, rfl⟩
    rw [uh2_hx x hx2] at h
    cases h
/-- what pairs of digits say -/
def uhL : List UInt8 → Option (List Nat)
  | [] => some []
  | [_] => none
  | a :: b :: r => match uh2 a b with
    | none => none
    | some x => (uhL r).map (x :: ·)
theorem uhL_hex : ∀ (l : List Nat), (∀ x ∈ l, x < 256) → uhL (hexL l) = some l
  | [], _ => rfl
  | c :: r, h => by
    show uhL (hx (c / 16) :: hx (c % 16) :: hexL r) = _
    simp only [uhL]
    rw [uh2_hx c (h c (List.mem_cons_self ..)), uhL_hex r (fun x hx => h x (List.mem_cons_of_mem _ hx))]
    rfl
theorem hexL_length (l : List Nat) : (hexL l).length = 2 * l.length := by
  induction l with
  | nil => rfl
  | cons c r ih => show (hx (c / 16) :: hx (c % 16) :: hexL r).length = _; simp only [List.length_cons, ih]; omega
theorem hexL_append (l m : List Nat) : hexL (l ++ m) = hexL l ++ hexL m := by simp [hexL]
theorem uhL_odd : ∀ (l : List UInt8), l.length % 2 = 1 → uhL l = none
  | [], h => by simp at h
  | [_], _ => rfl
  | a :: b :: r, h => by
    have h2 := uhL_odd r (by simp only [List.length_cons] at h; omega)
    simp only [uhL]
    split
    · rfl
    · rw [h2]; rfl
theorem uhL_lt : ∀ (l : List UInt8) (m : List Nat), uhL l = some m → (∀ x ∈ m, x < 256) ∧ 2 * m.length = l.length
  | [], m, h => by cases h; exact ⟨fun x hx => (by cases hx), rfl⟩
  | [_], m, h => by cases h
  | a :: b :: r, m, h => by
    simp only [uhL] at h
    split at h
    · cases h
    · rename_i x hx
      cases hr : uhL r with
      | none => rw [hr] at h; cases h
      | some q =>
        rw [hr] at h
        cases h
        obtain ⟨h1, h2⟩ := uhL_lt r q hr
        refine ⟨fun y hy => ?_, by simp only [List.length_cons]; omega⟩
        rcases List.mem_cons.1 hy with rfl | hy
        · exact (uh2_some hx).1
        · exact h1 y hy
/-- one step of reading: k bytes were read -/
theorem uhL_step {l : List UInt8} {k : Nat} {L : List Nat} (hk : 2 * k + 1 < l.length) (h : uhL l = (uhL (l.drop (2 * k))).map (L ++ ·)) :
    (∀ x, uh2 (l.getD (2 * k) 0) (l.getD (2 * k + 1) 0) = some x → uhL l = (uhL (l.drop (2 * (k + 1)))).map ((L ++ [x]) ++ ·)) ∧ (uh2 (l.getD (2 * k) 0) (l.getD (2 * k + 1) 0) = none → uhL l = none) := by
  have e : l.drop (2 * k) = l.getD (2 * k) 0 :: l.getD (2 * k + 1) 0 :: l.drop (2 * (k + 1)) := by
    rw [List.drop_eq_getElem_cons (by omega), List.drop_eq_getElem_cons hk]
    simp only [List.getD_eq_getElem?_getD, List.getElem?_eq_getElem (show 2 * k < l.length by omega), List.getElem?_eq_getElem hk, Option.getD_some]
    rfl
  rw [e] at h
  simp only [uhL] at h
  refine ⟨fun x hx => ?_, fun hx => ?_⟩
  · rw [hx] at h
    rw [h]
    cases uhL (l.drop (2 * (k + 1))) <;> simp
  · rw [hx] at h
    rw [h]
    rfl
end Go.Proofs.YtomgnbhajhkhfaaDoor
