/- Dealing out by weights: how the parts grow. -/
import Derived.Test.YtblfmfanfpohbaaGreatNsm
namespace Go.Proofs.YtblfmfanfpohbaaGreat
theorem sumN_ge {n i : Nat} (g : Nat → Nat) (hi : i < n) : g i ≤ sumN n g := by
  induction n with
  | zero => omega
  | succ n ih =>
    rw [sumN_succ]
    by_cases c : i = n
    · rw [c]; omega
    · have := ih (by omega); omega
theorem shp_le {n T W : Nat} {wt f : Nat → Nat} (h : Ord n (rst T W wt) f) (hW : W = sumN n wt) (h0 : 0 < W) (hn : 0 < n) {i : Nat} (hi : i < n) : shp n T W wt i ≤ T := by
  have h1 := sumN_ge (shp n T W wt) hi
  rw [shp_sum h hW h0 hn] at h1
  exact h1
theorem sumN_pre {n k : Nat} (g : Nat → Nat) (h : k ≤ n) : sumN k g ≤ sumN n g := by
  induction n with
  | zero => obtain rfl : k = 0 := by omega
            exact Nat.le_refl _
  | succ n ih =>
    by_cases c : k = n + 1
    · rw [c]; exact Nat.le_refl _
    · rw [sumN_succ]; have := ih (by omega); omega

/-- what lies there when j of the first places have got one more -/
def grown (T W : Nat) (wt f : Nat → Nat) (j i : Nat) : Nat := quo T W wt i + if ∃ p, p < j ∧ f p = i then 1 else 0
theorem grown_zero (T W : Nat) (wt f : Nat → Nat) (i : Nat) : grown T W wt f 0 i = quo T W wt i := by
  unfold grown
  rw [if_neg (by rintro ⟨p, hp, _⟩; omega)]
  rfl
theorem grown_next {n T W : Nat} {wt f : Nat → Nat} (h : Ord n (rst T W wt) f) {j : Nat} (hj : j < n) (i : Nat) : grown T W wt f (j + 1) i = if i = f j then grown T W wt f j (f j) + 1 else grown T W wt f j i := by
  unfold grown
  by_cases c : i = f j
  · subst c
    rw [if_pos rfl, if_pos ⟨j, by omega, rfl⟩, if_neg (by rintro ⟨p, hp, e⟩; have := h.inj (by omega) hj e; omega)]
  · rw [if_neg c]
    congr 1
    by_cases e : ∃ p, p < j ∧ f p = i
    · obtain ⟨p, h1, h2⟩ := e
      rw [if_pos ⟨p, by omega, h2⟩, if_pos ⟨p, h1, h2⟩]
    · rw [if_neg e, if_neg]
      rintro ⟨p, h1, h2⟩
      by_cases e2 : p = j
      · subst e2; exact c h2.symm
      · exact e ⟨p, by omega, h2⟩
theorem grown_here {n T W : Nat} {wt f : Nat → Nat} (h : Ord n (rst T W wt) f) {j : Nat} (hj : j < n) : grown T W wt f j (f j) = quo T W wt (f j) := by
  unfold grown
  rw [if_neg (by rintro ⟨p, hp, e⟩; have := h.inj (by omega) hj e; omega)]
  rfl
theorem grown_end {n T W : Nat} {wt f : Nat → Nat} (h : Ord n (rst T W wt) f) (hW : W = sumN n wt) (h0 : 0 < W) (hn : 0 < n) {i : Nat} (hi : i < n) : grown T W wt f (lft n T W wt) i = shp n T W wt i := by
  have h2 := lft_lt (T := T) hW h0 hn
  unfold grown shp
  congr 1
  by_cases c : ∃ p, p < lft n T W wt ∧ f p = i
  · rw [if_pos c, if_pos ((h.first hi (by omega)).1 c)]
  · rw [if_neg c, if_neg fun hh => c ((h.first hi (by omega)).2 hh)]
theorem quo_one {n T W : Nat} {wt f : Nat → Nat} (h : Ord n (rst T W wt) f) (hW : W = sumN n wt) (h0 : 0 < W) (hn : 0 < n) {j : Nat} (hj : j < lft n T W wt) : quo T W wt (f j) + 1 ≤ T := by
  have h2 := lft_lt (T := T) hW h0 hn
  have h3 := shp_le h hW h0 hn (i := f j) (h.bnd j (by omega))
  unfold shp at h3
  rw [if_pos ((h.first (h.bnd j (by omega)) (by omega)).1 ⟨j, hj, rfl⟩)] at h3
  exact h3
theorem quo_le {n T W : Nat} {wt : Nat → Nat} (hW : W = sumN n wt) (h0 : 0 < W) {i : Nat} (hi : i < n) : quo T W wt i ≤ T := by
  have h1 := sumN_ge (quo T W wt) hi
  have := (sum_quo (T := T) hW h0).1
  omega
theorem wide_quo {T W x : Nat} (hT : T < 18446744073709551616) (hx : x ≤ W) (h0 : 0 < W) : T * x / 18446744073709551616 < W := by
  have h1 : T * x ≤ T * W := Nat.mul_le_mul_left _ hx
  have h2 : T * W < 18446744073709551616 * W := Nat.mul_lt_mul_of_pos_right hT h0
  exact Nat.div_lt_of_lt_mul (by omega)
theorem hilo (A : Nat) : A / 18446744073709551616 * 18446744073709551616 + A % 18446744073709551616 = A := by omega
end Go.Proofs.YtblfmfanfpohbaaGreat
