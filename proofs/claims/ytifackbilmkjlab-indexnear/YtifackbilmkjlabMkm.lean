/- Plain mathematics of indexes: what is written, what is read. -/
import Derived.Test.YtifackbilmkjlabMkV
import Derived.Test.YtifackbilmkjlabLmat
namespace Go.Proofs.Ytifackbilmkjlab
open Go.ChangeShapes Go.WideShapes Go.ChangeAt Go.RowKit
set_option linter.unusedVariables false
/-- what each mark is above the one ahead -/
def dls : Int → Int → List Mk → List Nat
  | _, _, [] => []
  | s, a, p :: r => (p.1 - s).toNat :: (p.2 - a).toNat :: dls p.1 p.2 r
theorem dls_length : ∀ (L : List Mk) (s a : Int), (dls s a L).length = 2 * L.length
  | [], _, _ => rfl
  | p :: r, s, a => by simp only [dls, List.length_cons, dls_length r p.1 p.2]; omega
def mEnc (L : List Mk) : List Nat := encAll (dls 0 0 L)
theorem vfrom_head {s a : Int} {p : Mk} {r : List Mk} (h : vfrom s a (p :: r) = true) : s < p.1 ∧ a < p.2 ∧ p.1 ≤ 1099511627776 ∧ p.2 ≤ 1099511627776 ∧ vfrom p.1 p.2 r = true := by
  rw [vfrom_cons] at h
  split at h
  · cases h
  · rename_i h1
    exact ⟨by omega, by omega, by omega, by omega, h⟩
theorem dls_le : ∀ (L : List Mk) (s a a' : Int), 0 ≤ s → 0 ≤ a → a ≤ a' + 1 → vfrom s a' L = true → ∀ x ∈ dls s a L, x ≤ 1099511627776
  | [], _, _, _, _, _, _, _, x, hx => by cases hx
  | p :: r, s, a, a', h0, h1, h2, hv, x, hx => by
    obtain ⟨g1, g2, g3, g4, g5⟩ := vfrom_head hv
    simp only [dls, List.mem_cons] at hx
    rcases hx with rfl | rfl | hx
    · omega
    · omega
    · exact dls_le r p.1 p.2 p.2 (by omega) (by omega) (by omega) g5 x hx
theorem mEnc_le (L : List Mk) (h : validB L = true) : ∀ x ∈ dls 0 0 L, x ≤ 18446744073709551615 := by
  have h1 : L.length ≤ 512 := by
    by_cases hh : L.length ≤ 512
    · exact hh
    · rw [validB_long (by omega)] at h; cases h
  rw [validB_short h1] at h
  intro x hx
  have := dls_le L 0 0 (-1) (by omega) (by omega) (by omega) h x hx
  omega
theorem valid_len {L : List Mk} (h : validB L = true) : L.length ≤ 512 := by
  by_cases hh : L.length ≤ 512
  · exact hh
  · rw [validB_long (by omega)] at h; cases h
theorem valid_from {L : List Mk} (h : validB L = true) : vfrom 0 (-1) L = true := by rw [← validB_short (valid_len h)]; exact h
/-- the marks that numbers add up to, behind those of acc -/
def mkN : List Mk → Int → Int → List Nat → Option (List Mk)
  | acc, s, a, x :: y :: r => if 1099511627776 < x ∨ 1099511627776 < y then none else mkN (acc ++ [(s + x, a + y)]) (s + x) (a + y) r
  | acc, _, _, _ => some acc
theorem mkN_cons (acc : List Mk) (s a : Int) (x y : Nat) (r : List Nat) : mkN acc s a (x :: y :: r) = if 1099511627776 < x ∨ 1099511627776 < y then none else mkN (acc ++ [(s + x, a + y)]) (s + x) (a + y) r := rfl
def mDec (l : List Nat) : List Mk × Nat :=
  if (decAll l 1024).2.2 ≠ 0 then ([], (decAll l 1024).2.2) else if (decAll l 1024).2.1 ≠ l.length ∨ (decAll l 1024).1.length % 2 = 1 then ([], 70) else
    match mkN [] 0 0 (decAll l 1024).1 with
    | none => ([], 70)
    | some L => if validB L = true then (L, 0) else ([], 70)
/-- a block of another type is not touched by an append -/
theorem grown_box {w w' : World} {base n size k T : Nat} {e : TypeId} {v : Value} {xs : List Value} {c : Array Value} {m : Nat × Nat} (ho : w.ownsRow base e size v n xs) (hg : w.grownBy w' v.ownBlock) (hk : w.heap[k]? = some (.cells c T m)) (hT : T ≠ e) : w'.heap[k]? = some (.cells c T m) := by
  rw [hg.block k (lt_of_heap hk) (fun h => ?_)]
  · exact hk
  · rcases ho.2 with ⟨rfl, _⟩ | ⟨g, cap, cur, rfl, _, hh, _⟩
    · simp [Value.ownBlock] at h
    · have : k = g := by simpa [Value.ownBlock] using h
      subst this
      rw [hk] at hh
      cases hh
      exact hT rfl
/-- nor by a store into that block -/
theorem own_set {w : World} {base n size k T : Nat} {e : TypeId} {v : Value} {xs : List Value} {c : Array Value} {m : Nat × Nat} (ho : w.ownsRow base e size v n xs) (hk : w.heap[k]? = some (.cells c T m)) (hT : T ≠ e) (j : Nat) (u : Value) : (w.setCell ⟨k, j, none⟩ u).ownsRow base e size v n xs := by
  refine ⟨ho.1, ?_⟩
  rcases ho.2 with h2 | ⟨g, cap, cur, h3, h4, h5, h6⟩
  · exact .inl h2
  · refine .inr ⟨g, cap, cur, h3, h4, (heap_setCell_other w ⟨k, j, none⟩ g u ?_).trans h5, h6⟩
    rintro rfl
    have h7 := hk.symm.trans h5
    cases h7
    exact hT rfl
theorem cell_new2 (w : World) (x y : Value) (e : TypeId) : ∀ j u, [x, y][j]? = some u → (w.alloc (.cells #[x, y] e)).cell? ((⟨w.heap.size, 0, none⟩ : Addr).add j) = some u := by
  intro j u hj
  have hc := cell_of_row (w.alloc (.cells #[x, y] e)) w.heap.size j #[x, y] e (0, 0) (heap_alloc_new w _)
  rw [show (⟨w.heap.size, 0, none⟩ : Addr).add j = ⟨w.heap.size, j, none⟩ from by by_cases h : j = 0 <;> simp [Addr.add, h], hc]
  simpa using hj
theorem one_new2 {k : IntKind} (n m : Int) : ∀ u ∈ [Value.int k n, Value.int k m], u.oneCell' = true := by
  intro u hu
  simp at hu
  rcases hu with rfl | rfl <;> rfl
theorem Own64.snoc2 {w : World} {base : Nat} {v : Value} {l : List Nat} {u x : Nat} (hl : ∀ i, l.getD i 0 < 18446744073709551616) (hu : u < 18446744073709551616) (hx : x < 18446744073709551616) (h : w.ownsRow base 46 1 v (l.length + 2) (B64 l ++ [.int .u64 (u : Int), .int .u64 (x : Int)])) : Own64 w base v (l ++ [u, x]) := by
  refine ⟨fun i => ?_, by rw [List.length_append, B64_append]; exact h⟩
  have h1 := hl i
  rw [List.getD_eq_getElem?_getD] at h1 ⊢
  rw [List.getElem?_append]
  split
  · exact h1
  · match i - l.length with
    | 0 => simpa using hu
    | 1 => simpa using hx
    | n + 2 => simp
theorem ret2 {v : Value} {k : IntKind} {b b' : Int} (h2 : b = b') : Ending.returned (.tuple #[v, .int k b]) = .returned (.tuple #[v, .int k b']) := by rw [h2]
theorem own_nil (w : World) (base : Nat) : Own w base (.slice none 0 0) [] := ⟨by simp, World.ownsRow_nil w base _ 1⟩
end Go.Proofs.Ytifackbilmkjlab
