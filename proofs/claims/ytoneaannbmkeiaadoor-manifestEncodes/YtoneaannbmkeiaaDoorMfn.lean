/- The numbers that a manifest's body tells; its bytes. -/
import Derived.Test.YtoneaannbmkeiaaDoorMf2
import Derived.Test.YtoneaannbmkeiaaDoorFr2
import Derived.Test.YtoneaannbmkeiaaDoorEncAl
import Derived.Test.YtoneaannbmkeiaaDoorDecAl
namespace Go.Proofs.YtoneaannbmkeiaaDoor
open Go.ChangeShapes Go.WideShapes Go.ChangeAt Go.RowKit
set_option linter.unusedVariables false
def smN : List Sm → List Nat
  | [] => []
  | s :: r => s.num.toNat :: s.first.toNat :: s.count.toNat :: s.foot.toNat :: smN r
def mfN (m : Mf) : List Nat := [m.next.toNat, m.floor.toNat, m.snap.toNat, m.snapSeq.toNat] ++ smN m.segs
/-- the bytes of a manifest, and the error of what is none -/
def mfL (m : Mf) : List Nat := if mvB m = true then frameL 4 m.gen.toNat (encAll (mfN m)) else []
def mfE (m : Mf) : Nat := if mvB m = true then 0 else 80
theorem smN_append : ∀ (L M : List Sm), smN (L ++ M) = smN L ++ smN M
  | [], M => rfl
  | p :: r, M => by simp only [List.cons_append, smN, smN_append r M]
theorem smN_length : ∀ (L : List Sm), (smN L).length = 4 * L.length
  | [] => rfl
  | p :: r => by simp only [smN, List.length_cons, smN_length r]; omega
/-- what holds of each segment of a right list -/
theorem seg_facts : ∀ (L : List Sm) (nx x y Y : Int), segsB nx x y L = true → 0 ≤ x → 0 ≤ y → y ≤ Y → nx ≤ 1000000 → ∀ s ∈ L, 0 ≤ s.num ∧ s.num ≤ 999999 ∧ 0 ≤ s.first ∧ s.first ≤ Y + 512 * (L.length : Int) ∧ 0 ≤ s.count ∧ s.count ≤ 512 ∧ 0 ≤ s.foot ∧ s.foot ≤ 1099511627776
  | [], nx, x, y, Y, h, h1, h2, h3, h4, s, hs => by cases hs
  | p :: r, nx, x, y, Y, h, h1, h2, h3, h4, s, hs => by
    rw [segsB_cons] at h
    split at h
    · rename_i hc
      obtain ⟨c1, c2, c3, c4⟩ := hc
      have hcount := endB_count c4
      have hfoot : 0 ≤ p.foot ∧ p.foot ≤ 1099511627776 := by
        cases hb : r.isEmpty with
        | true => rw [hb] at c4; have := endB_true c4; omega
        | false => rw [hb] at c4; have := endB_false c4; omega
      rcases List.mem_cons.1 hs with rfl | hs
      · simp only [List.length_cons]
        omega
      · have := seg_facts r nx p.num (p.first + p.count) (Y + 512) h (by omega) (by omega) (by omega) h4 s hs
        simp only [List.length_cons]
        omega
    · cases h
theorem mv_parts {m : Mf} (h : mvB m = true) : headB m = true ∧ 1 ≤ m.segs.length ∧ m.segs.length ≤ 256 ∧ segsB m.next 0 (m.floor + 1) m.segs = true := by
  unfold mvB at h
  rw [Bool.and_eq_true] at h
  obtain ⟨h1, h2⟩ := h
  unfold listB at h2
  split at h2
  · rename_i hc; exact ⟨h1, hc.1, hc.2, h2⟩
  · cases h2
theorem mv_segs {m : Mf} (h : mvB m = true) : ∀ s ∈ m.segs, 0 ≤ s.num ∧ s.num ≤ 999999 ∧ 0 ≤ s.first ∧ s.first ≤ 1099511758849 ∧ 0 ≤ s.count ∧ s.count ≤ 512 ∧ 0 ≤ s.foot ∧ s.foot ≤ 1099511627776 := by
  obtain ⟨h1, h2, h3, h4⟩ := mv_parts h
  have hh := headB_facts h1
  intro s hs
  have := seg_facts m.segs m.next 0 (m.floor + 1) 1099511627777 h4 (by omega) (by omega) (by omega) (by omega) s hs
  omega
theorem smN_le (L : List Sm) (h : ∀ s ∈ L, 0 ≤ s.num ∧ s.num ≤ 999999 ∧ 0 ≤ s.first ∧ s.first ≤ 1099511758849 ∧ 0 ≤ s.count ∧ s.count ≤ 512 ∧ 0 ≤ s.foot ∧ s.foot ≤ 1099511627776) : ∀ x ∈ smN L, x ≤ 1099511758849 := by
  induction L with
  | nil => intro x hx; cases hx
  | cons p r ih =>
    intro x hx
    have hp := h p (by simp)
    simp only [smN, List.mem_cons] at hx
    rcases hx with rfl | rfl | rfl | rfl | hx
    · omega
    · omega
    · omega
    · omega
    · exact ih (fun s hs => h s (by simp [hs])) x hx
theorem mfN_le {m : Mf} (h : mvB m = true) : ∀ x ∈ mfN m, x ≤ 1099511758849 := by
  have hh := headB_facts (mv_parts h).1
  intro x hx
  unfold mfN at hx
  simp only [List.cons_append, List.nil_append, List.mem_cons] at hx
  rcases hx with rfl | rfl | rfl | rfl | hx
  · omega
  · omega
  · omega
  · omega
  · exact smN_le m.segs (mv_segs h) x hx
theorem mfN_length (m : Mf) : (mfN m).length = 4 + 4 * m.segs.length := by
  unfold mfN
  rw [List.length_append, smN_length]
  rfl
theorem encF_small : ∀ (f k u : Nat), u < 128 ^ (k + 1) → k < f → (encF f u).length ≤ k + 1
  | 0, k, u, h, hk => by omega
  | f + 1, 0, u, h, hk => by
    simp only [encF]
    rw [if_pos (by simpa using h)]
    simp
  | f + 1, k + 1, u, h, hk => by
    simp only [encF]
    split
    · simp
    · have hd : u / 128 < 128 ^ (k + 1) := by
        rw [Nat.div_lt_iff_lt_mul (by omega)]
        rw [Nat.pow_succ] at h
        exact h
      have := encF_small f k (u / 128) hd (by omega)
      simp only [List.length_cons]
      omega
theorem enc_small (k u : Nat) (h : u < 128 ^ (k + 1)) (hk : k < 9) : (enc u).length ≤ k + 1 := by
  unfold enc
  exact encF_small _ k u h (by omega)
theorem flat_smN (L : List Sm) (h : ∀ s ∈ L, 0 ≤ s.num ∧ s.num ≤ 999999 ∧ 0 ≤ s.first ∧ s.first ≤ 1099511758849 ∧ 0 ≤ s.count ∧ s.count ≤ 512 ∧ 0 ≤ s.foot ∧ s.foot ≤ 1099511627776) : (flat (smN L)).length ≤ 17 * L.length := by
  induction L with
  | nil => simp [smN, flat]
  | cons p r ih =>
    have hp := h p (by simp)
    have ih := ih (fun s hs => h s (by simp [hs]))
    simp only [smN, flat, List.length_append, List.length_cons]
    have e0 := enc_small 2 p.num.toNat (by have : (128 : Nat) ^ 3 = 2097152 := by decide
                                           show _ < 128 ^ 3; omega) (by omega)
    have e1 := enc_small 5 p.first.toNat (by have : (128 : Nat) ^ 6 = 4398046511104 := by decide
                                             show _ < 128 ^ 6; omega) (by omega)
    have e2 := enc_small 1 p.count.toNat (by have : (128 : Nat) ^ 2 = 16384 := by decide
                                             show _ < 128 ^ 2; omega) (by omega)
    have e3 := enc_small 5 p.foot.toNat (by have : (128 : Nat) ^ 6 = 4398046511104 := by decide
                                            show _ < 128 ^ 6; omega) (by omega)
    omega
/-- the body is short -/
theorem mf_body {m : Mf} (h : mvB m = true) : (encAll (mfN m)).length ≤ 4374 := by
  obtain ⟨h1, h2, h3, h4⟩ := mv_parts h
  have hh := headB_facts h1
  have hf := flat_smN m.segs (mv_segs h)
  unfold encAll
  rw [mfN_length]
  unfold mfN
  simp only [List.cons_append, List.nil_append, flat, List.length_append]
  have p2 : (128 : Nat) ^ 2 = 16384 := by decide
  have p3 : (128 : Nat) ^ 3 = 2097152 := by decide
  have p6 : (128 : Nat) ^ 6 = 4398046511104 := by decide
  have e0 := enc_small 2 m.next.toNat (by show _ < 128 ^ 3; omega) (by omega)
  have e1 := enc_small 5 m.floor.toNat (by show _ < 128 ^ 6; omega) (by omega)
  have e2 := enc_small 2 m.snap.toNat (by show _ < 128 ^ 3; omega) (by omega)
  have e3 := enc_small 5 m.snapSeq.toNat (by show _ < 128 ^ 6; omega) (by omega)
  have e4 := enc_small 1 (4 + 4 * m.segs.length) (by show _ < 128 ^ 2; omega) (by omega)
  omega
theorem enc_frame4 (k s n : Nat) (hk1 : 1 ≤ k) (hk7 : k ≤ 7) (hs : s ≤ 1099511627776) (hn : n ≤ 16384) : encE (k : Int) (s : Int) n = 0 := by
  unfold encE
  rw [if_neg, if_neg (by omega)]
  have : inB (k : Int) (s : Int) = true := decide_eq_true ⟨by omega, by omega, by omega, by omega⟩
  rw [this]
  simp
theorem cell_new4 (w : World) (x y z u : Value) (e : TypeId) : ∀ j v, [x, y, z, u][j]? = some v → (w.alloc (.cells #[x, y, z, u] e)).cell? ((⟨w.heap.size, 0, none⟩ : Addr).add j) = some v := by
  intro j v hj
  have hc := cell_of_row (w.alloc (.cells #[x, y, z, u] e)) w.heap.size j #[x, y, z, u] e (0, 0) (heap_alloc_new w _)
  rw [show (⟨w.heap.size, 0, none⟩ : Addr).add j = ⟨w.heap.size, j, none⟩ from by by_cases h : j = 0 <;> simp [Addr.add, h], hc]
  simpa using hj
theorem one_new4 {k : IntKind} (n m p q : Int) : ∀ u ∈ [Value.int k n, Value.int k m, Value.int k p, Value.int k q], u.oneCell' = true := by
  intro u hu
  simp at hu
  rcases hu with rfl | rfl | rfl | rfl <;> rfl
theorem Own64.snoc4 {w : World} {base : Nat} {v : Value} {l : List Nat} {u x y z : Nat} (hl : ∀ i, l.getD i 0 < 18446744073709551616) (hu : u < 18446744073709551616) (hx : x < 18446744073709551616) (hy : y < 18446744073709551616) (hz : z < 18446744073709551616) (h : w.ownsRow base 47 1 v (l.length + 4) (B64 l ++ [.int .u64 (u : Int), .int .u64 (x : Int), .int .u64 (y : Int), .int .u64 (z : Int)])) : Own64 w base v (l ++ [u, x, y, z]) := by
  refine ⟨fun i => ?_, by rw [List.length_append, B64_append]; exact h⟩
  have h1 := hl i
  rw [List.getD_eq_getElem?_getD] at h1 ⊢
  rw [List.getElem?_append]
  split
  · exact h1
  · match i - l.length with
    | 0 => simpa using hu
    | 1 => simpa using hx
    | 2 => simpa using hy
    | 3 => simpa using hz
    | k + 4 => simp
theorem lit64_4 (w : World) (u x y z : Nat) (hu : u < 18446744073709551616) (hx : x < 18446744073709551616) (hy : y < 18446744073709551616) (hz : z < 18446744073709551616) : Own64 (w.alloc (.cells #[.int .u64 (u : Int), .int .u64 (x : Int), .int .u64 (y : Int), .int .u64 (z : Int)] 47)) w.heap.size (.slice (some ⟨w.heap.size, 0, none⟩) 4 4) [u, x, y, z] := by
  refine ⟨fun i => ?_, World.ownsRow_lit w #[.int .u64 (u : Int), .int .u64 (x : Int), .int .u64 (y : Int), .int .u64 (z : Int)] 4 (Nat.le_refl _) (by unfold maxLen; omega) rfl⟩
  match i with
  | 0 => simpa using hu
  | 1 => simpa using hx
  | 2 => simpa using hy
  | 3 => simpa using hz
  | k + 4 => simp
theorem grown_boxM {w w' : World} {base n size k T : Nat} {e : TypeId} {v : Value} {xs : List Value} {c : Array Value} {m : Nat × Nat} (ho : w.ownsRow base e size v n xs) (hg : w.grownBy w' v.ownBlock) (hk : w.heap[k]? = some (.cells c T m)) (hT : T ≠ e) : w'.heap[k]? = some (.cells c T m) := by
  rw [hg.block k (lt_of_heap hk) (fun h => ?_)]
  · exact hk
  · rcases ho.2 with ⟨rfl, _⟩ | ⟨g, cap, cur, rfl, _, hh, _⟩
    · simp [Value.ownBlock] at h
    · have : k = g := by simpa [Value.ownBlock] using h
      subst this
      rw [hk] at hh
      cases hh
      exact hT rfl
end Go.Proofs.YtoneaannbmkeiaaDoor
