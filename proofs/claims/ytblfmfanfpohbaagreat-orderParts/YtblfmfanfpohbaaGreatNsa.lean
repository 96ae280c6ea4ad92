/- A stable sort in place, as plain facts on rows of numbers: what is sorted by a key, what keeps equals in their order, what a rotation makes. -/
import Derived.Sort.Row
import Derived.Sort.LotA
set_option linter.unusedVariables false
namespace Go.Proofs.YtblfmfanfpohbaaGreat
open Go.Sort
/-- among equal keys the smaller number comes first -/
def Stb (k : Nat → Nat) (d : Array Nat) : Prop := ∀ i j, i < j → j < d.size → k d[i]! = k d[j]! → d[i]! < d[j]!
/-- the keys fall from a to b -/
def Srt (k : Nat → Nat) (a b : Nat) (d : Array Nat) : Prop := ∀ i j, a ≤ i → i < j → j < b → k d[j]! ≤ k d[i]!
/-- d' is d but for the places from a to b, and there nothing is new -/
structure Mv (a b : Nat) (d d' : Array Nat) : Prop where
  size : d'.size = d.size
  out : ∀ i, (i < a ∨ b ≤ i) → d'[i]! = d[i]!
  inn : ∀ i, a ≤ i → i < b → ∃ j, a ≤ j ∧ j < b ∧ d'[i]! = d[j]!
theorem Mv.refl (a b : Nat) (d : Array Nat) : Mv a b d d := ⟨rfl, fun _ _ => rfl, fun i h h' => ⟨i, h, h', rfl⟩⟩
theorem Mv.trans {a b : Nat} {d e f : Array Nat} (h : Mv a b d e) (h' : Mv a b e f) : Mv a b d f := by
  refine ⟨h'.size.trans h.size, fun i hi => (h'.out i hi).trans (h.out i hi), fun i hi hj => ?_⟩
  obtain ⟨j, h1, h2, h3⟩ := h'.inn i hi hj
  obtain ⟨l, h4, h5, h6⟩ := h.inn j h1 h2
  exact ⟨l, h4, h5, h3.trans h6⟩
theorem Mv.mono {a b a' b' : Nat} {d e : Array Nat} (h : Mv a b d e) (ha : a' ≤ a) (hb : b ≤ b') : Mv a' b' d e := by
  refine ⟨h.size, fun i hi => h.out i (by omega), fun i hi hj => ?_⟩
  by_cases hc : a ≤ i ∧ i < b
  · obtain ⟨j, h1, h2, h3⟩ := h.inn i hc.1 hc.2
    exact ⟨j, by omega, by omega, h3⟩
  · exact ⟨i, hi, hj, h.out i (by omega)⟩
/-- the numbers are places of the row -/
def Bnd (d : Array Nat) : Prop := ∀ i, i < d.size → d[i]! < d.size
theorem Mv.bnd {a b : Nat} {d e : Array Nat} (h : Mv a b d e) (hb : b ≤ d.size) (hd : Bnd d) : Bnd e := by
  intro i hi
  rw [h.size] at hi ⊢
  by_cases hc : a ≤ i ∧ i < b
  · obtain ⟨j, h1, h2, h3⟩ := h.inn i hc.1 hc.2
    rw [h3]; exact hd j (by omega)
  · rw [h.out i (by omega)]; exact hd i hi
theorem Mv.srt_out {k : Nat → Nat} {a b x y : Nat} {d e : Array Nat} (h : Mv a b d e) (hs : Srt k x y d) (ho : y ≤ a ∨ b ≤ x) : Srt k x y e := by
  intro i j hi hij hj
  rw [h.out i (by omega), h.out j (by omega)]
  exact hs i j hi hij hj
theorem Srt.join {k : Nat → Nat} {a m b : Nat} {d : Array Nat} (h1 : Srt k a m d) (h2 : Srt k m b d) (hc : ∀ x y, a ≤ x → x < m → m ≤ y → y < b → k d[y]! ≤ k d[x]!) : Srt k a b d := by
  intro i j hi hij hj
  by_cases h : j < m
  · exact h1 i j hi hij h
  · by_cases h' : i < m
    · exact hc i j hi h' (by omega) hj
    · exact h2 i j (by omega) hij hj
theorem Srt.sub {k : Nat → Nat} {a b x y : Nat} {d : Array Nat} (h : Srt k a b d) (hx : a ≤ x) (hy : y ≤ b) : Srt k x y d := fun i j hi hij hj => h i j (by omega) hij (by omega)
theorem srt_one (k : Nat → Nat) (a b : Nat) (d : Array Nat) (h : b ≤ a + 1) : Srt k a b d := fun i j hi hij hj => by omega
/-- two rows of n exchanged, from a on and from b on -/
structure SwR (a b n : Nat) (d d' : Array Nat) : Prop where
  size : d'.size = d.size
  fst : ∀ i, a ≤ i → i < a + n → d'[i]! = d[i + (b - a)]!
  snd : ∀ i, b ≤ i → i < b + n → d'[i]! = d[i - (b - a)]!
  out : ∀ i, ¬ (a ≤ i ∧ i < a + n) → ¬ (b ≤ i ∧ i < b + n) → d'[i]! = d[i]!
theorem SwR.zero (a b : Nat) (d : Array Nat) : SwR a b 0 d d := ⟨rfl, fun i _ _ => by omega, fun i _ _ => by omega, fun _ _ _ => rfl⟩
theorem SwR.next {a b n : Nat} {d e : Array Nat} (h : SwR a b n d e) (hab : a + n < b) (hb : b + n < d.size) : SwR a b (n + 1) d (swp e (a + n) (b + n)) := by
  have hs := h.size
  have hg := swp_get e (i := a + n) (j := b + n) (by omega) (by omega)
  refine ⟨by rw [swp_size]; exact hs, fun i h1 h2 => ?_, fun i h1 h2 => ?_, fun i h1 h2 => ?_⟩
  · rw [hg i, if_neg (by omega)]
    by_cases hc : i = a + n
    · rw [if_pos hc, h.out _ (by omega) (by omega), hc]; congr 1; omega
    · rw [if_neg hc, h.fst i h1 (by omega)]
  · rw [hg i]
    by_cases hc : i = b + n
    · rw [if_pos hc, h.out _ (by omega) (by omega), hc]; congr 1; omega
    · rw [if_neg hc, if_neg (by omega), h.snd i h1 (by omega)]
  · rw [hg i, if_neg (by omega), if_neg (by omega), h.out i (by omega) (by omega)]
/-- the rows from a to m and from m to b change places -/
structure Rot (a m b : Nat) (d d' : Array Nat) : Prop where
  size : d'.size = d.size
  fst : ∀ i, a ≤ i → i < a + (b - m) → d'[i]! = d[i + (m - a)]!
  snd : ∀ i, a + (b - m) ≤ i → i < b → d'[i]! = d[i - (b - m)]!
  out : ∀ i, i < a ∨ b ≤ i → d'[i]! = d[i]!
theorem rot_end {m i : Nat} {d e : Array Nat} (hi : i ≤ m) (h : SwR (m - i) m i d e) : Rot (m - i) m (m + i) d e := by
  refine ⟨h.size, fun x h1 h2 => ?_, fun x h1 h2 => ?_, fun x hx => h.out x (by omega) (by omega)⟩
  · rw [h.fst x h1 (by omega)]
  · rw [h.snd x (by omega) (by omega)]; congr 1; omega
theorem rot_left {m i j : Nat} {d e f : Array Nat} (hi : i ≤ m) (hij : j < i) (h : SwR (m - i) m j d e) (hr : Rot (m - (i - j)) m (m + j) e f) : Rot (m - i) m (m + j) d f := by
  refine ⟨hr.size.trans h.size, fun x h1 h2 => ?_, fun x h1 h2 => ?_, fun x hx => ?_⟩
  · rw [hr.out x (by omega), h.fst x h1 (by omega)]
  · by_cases hc : x < m - (i - j) + (m + j - m)
    · rw [hr.fst x (by omega) hc, h.snd _ (by omega) (by omega)]; congr 1; omega
    · rw [hr.snd x (by omega) h2]
      exact h.out _ (by omega) (by omega)
  · rw [hr.out x (by omega), h.out x (by omega) (by omega)]
theorem rot_right {m i j : Nat} {d e f : Array Nat} (hi : i ≤ m) (hij : i < j) (h : SwR (m - i) (m + j - i) i d e) (hr : Rot (m - i) m (m + (j - i)) e f) : Rot (m - i) m (m + j) d f := by
  refine ⟨hr.size.trans h.size, fun x h1 h2 => ?_, fun x h1 h2 => ?_, fun x hx => ?_⟩
  · by_cases hc : x < m - i + (m + (j - i) - m)
    · rw [hr.fst x h1 hc, h.out _ (by omega) (by omega)]
    · by_cases hd : x < m + (j - i)
      · rw [hr.snd x (by omega) hd, h.fst _ (by omega) (by omega)]; congr 1; omega
      · omega
  · by_cases hd : x < m + (j - i)
    · omega
    · rw [hr.out x (by omega), h.snd x (by omega) (by omega)]; congr 1; omega
  · rw [hr.out x (by omega), h.out x (by omega) (by omega)]
theorem Rot.mv {a m b : Nat} {d e : Array Nat} (h : Rot a m b d e) (ha : a ≤ m) (hb : m ≤ b) : Mv a b d e := by
  refine ⟨h.size, h.out, fun i h1 h2 => ?_⟩
  by_cases hc : i < a + (b - m)
  · exact ⟨_, by omega, by omega, h.fst i h1 hc⟩
  · exact ⟨_, by omega, by omega, h.snd i (by omega) h2⟩
/-- the one at a moves on by one -/
theorem Rot.up {a i : Nat} {d e : Array Nat} (h : Rot a (a + 1) (i + 1) d e) (ha : a ≤ i) (hi : i + 1 < d.size) : Rot a (a + 1) (i + 2) d (swp e i (i + 1)) := by
  have hs := h.size
  have hg := swp_get e (i := i) (j := i + 1) (by omega) (by omega)
  have h0 : e[i]! = d[a]! := by rw [h.snd i (by omega) (by omega)]; congr 1; omega
  have h1 : e[i + 1]! = d[i + 1]! := h.out _ (by omega)
  refine ⟨by rw [swp_size]; exact hs, fun x h2 h3 => ?_, fun x h2 h3 => ?_, fun x hx => ?_⟩
  · rw [hg x, if_neg (by omega)]
    by_cases hc : x = i
    · rw [if_pos hc, h1, hc]; congr 1; omega
    · rw [if_neg hc, h.fst x h2 (by omega)]
  · obtain rfl : x = i + 1 := by omega
    rw [hg, if_pos rfl, h0]; congr 1; omega
  · rw [hg x, if_neg (by omega), if_neg (by omega), h.out x (by omega)]
/-- the one at m moves down by one -/
theorem Rot.down {m i : Nat} {d e : Array Nat} (h : Rot (i + 1) m (m + 1) d e) (hi : i + 1 ≤ m) (hm : m < d.size) : Rot i m (m + 1) d (swp e (i + 1) i) := by
  have hs := h.size
  have hg := swp_get e (i := i + 1) (j := i) (by omega) (by omega)
  have h0 : e[i + 1]! = d[m]! := by rw [h.fst _ (by omega) (by omega)]; congr 1; omega
  have h1 : e[i]! = d[i]! := h.out _ (by omega)
  refine ⟨by rw [swp_size]; exact hs, fun x h2 h3 => ?_, fun x h2 h3 => ?_, fun x hx => ?_⟩
  · obtain rfl : x = i := by omega
    rw [hg, if_pos rfl, h0]; congr 1; omega
  · rw [hg x, if_neg (by omega)]
    by_cases hc : x = i + 1
    · rw [if_pos hc, h1, hc]; congr 1; omega
    · rw [if_neg hc, h.snd x (by omega) (by omega)]
  · rw [hg x, if_neg (by omega), if_neg (by omega), h.out x (by omega)]
theorem rot_none (a m : Nat) (d : Array Nat) (h : a ≤ m) : Rot a m m d d := ⟨rfl, fun i _ _ => by omega, fun i _ _ => by congr 1; omega, fun _ _ => rfl⟩
theorem rot_none' (m b : Nat) (d : Array Nat) (h : m ≤ b) : Rot m m b d d := ⟨rfl, fun i _ _ => by congr 1; omega, fun i _ _ => by omega, fun _ _ => rfl⟩
/-- equals keep their order: what passes is less -/
theorem Rot.stb {k : Nat → Nat} {a m b : Nat} {d e : Array Nat} (h : Rot a m b d e) (ha : a ≤ m) (hm : m ≤ b) (hb : b ≤ d.size) (hs : Stb k d) (hc : ∀ x y, a ≤ x → x < m → m ≤ y → y < b → k d[x]! < k d[y]!) : Stb k e := by
  intro i j hij hj hk
  rw [h.size] at hj
  have key : ∀ x, x < d.size → ∃ y, e[x]! = d[y]! ∧ y < d.size ∧ ((x < a ∨ b ≤ x) ∧ y = x ∨ (a ≤ x ∧ x < a + (b - m)) ∧ y = x + (m - a) ∨ (a + (b - m) ≤ x ∧ x < b) ∧ y = x - (b - m)) := by
    intro x hx
    by_cases h1 : x < a ∨ b ≤ x
    · exact ⟨x, h.out x h1, hx, .inl ⟨h1, rfl⟩⟩
    · by_cases h2 : x < a + (b - m)
      · exact ⟨_, h.fst x (by omega) h2, by omega, .inr (.inl ⟨⟨by omega, h2⟩, rfl⟩)⟩
      · exact ⟨_, h.snd x (by omega) (by omega), by omega, .inr (.inr ⟨⟨by omega, by omega⟩, rfl⟩)⟩
  obtain ⟨y, ey, hy, cy⟩ := key i (by omega)
  obtain ⟨z, ez, hz, cz⟩ := key j hj
  rw [ey, ez] at hk ⊢
  by_cases hyz : y < z
  · exact hs y z hyz hz hk
  · exfalso
    have := hc z y (by omega) (by omega) (by omega) (by omega)
    omega
/-- one rotation of two sorted rows, cut where it fits: two sorted halves each of two rows, and the left before the right -/
structure Cut (k : Nat → Nat) (a s c e b : Nat) (d : Array Nat) : Prop where
  s1 : Srt k a s d
  s2 : Srt k s c d
  s3 : Srt k c e d
  s4 : Srt k e b d
  cross : ∀ x y, a ≤ x → x < c → c ≤ y → y < b → k d[y]! ≤ k d[x]!
theorem Rot.cut {k : Nat → Nat} {a s m e b : Nat} {d f : Array Nat} (h : Rot s m e d f) (h1 : a ≤ s) (h2 : s ≤ m) (h3 : m ≤ e) (h4 : e ≤ b) (hl : Srt k a m d) (hr : Srt k m b d)
    (hA : a < s → e < b → k d[e]! ≤ k d[s - 1]!) (hB : s < m → m < e → k d[s]! < k d[e - 1]!) : Cut k a s (s + (e - m)) e b f := by
  have A : ∀ x y, a ≤ x → x < s → e ≤ y → y < b → k d[y]! ≤ k d[x]! := by
    intro x y hx hxs hy hyb
    have q := hA (by omega) (by omega)
    have q1 : k d[s - 1]! ≤ k d[x]! := by
      by_cases hc : x = s - 1
      · rw [hc]; exact Nat.le_refl _
      · exact hl x (s - 1) hx (by omega) (by omega)
    have q2 : k d[y]! ≤ k d[e]! := by
      by_cases hc : y = e
      · rw [hc]; exact Nat.le_refl _
      · exact hr e y (by omega) (by omega) hyb
    omega
  have B : ∀ x y, s ≤ x → x < m → m ≤ y → y < e → k d[x]! < k d[y]! := by
    intro x y hx hxs hy hyb
    have q := hB (by omega) (by omega)
    have q1 : k d[x]! ≤ k d[s]! := by
      by_cases hc : x = s
      · rw [hc]; exact Nat.le_refl _
      · exact hl s x (by omega) (by omega) hxs
    have q2 : k d[e - 1]! ≤ k d[y]! := by
      by_cases hc : y = e - 1
      · rw [hc]; exact Nat.le_refl _
      · exact hr y (e - 1) hy (by omega) (by omega)
    omega
  refine ⟨fun i j hi hij hj => ?_, fun i j hi hij hj => ?_, fun i j hi hij hj => ?_, fun i j hi hij hj => ?_, fun x y hx hxc hy hyb => ?_⟩
  · rw [h.out i (by omega), h.out j (by omega)]; exact hl i j hi hij (by omega)
  · rw [h.fst i (by omega) (by omega), h.fst j (by omega) (by omega)]; exact hr _ _ (by omega) (by omega) (by omega)
  · rw [h.snd i (by omega) (by omega), h.snd j (by omega) (by omega)]; exact hl _ _ (by omega) (by omega) (by omega)
  · rw [h.out i (by omega), h.out j (by omega)]; exact hr i j (by omega) hij hj
  · by_cases c1 : x < s <;> by_cases c2 : y < e
    · rw [h.out x (by omega), h.snd y (by omega) c2]; exact hl _ _ hx (by omega) (by omega)
    · rw [h.out x (by omega), h.out y (by omega)]; exact A x y hx c1 (by omega) hyb
    · rw [h.fst x (by omega) (by omega), h.snd y (by omega) c2]; exact Nat.le_of_lt (B _ _ (by omega) (by omega) (by omega) (by omega))
    · rw [h.fst x (by omega) (by omega), h.out y (by omega)]; exact hr _ _ (by omega) (by omega) hyb
theorem Rot.pass {k : Nat → Nat} {a s m e b : Nat} {d : Array Nat} (h1 : a ≤ s) (h4 : e ≤ b) (hl : Srt k a m d) (hr : Srt k m b d) (hB : s < m → m < e → k d[s]! < k d[e - 1]!) : ∀ x y, s ≤ x → x < m → m ≤ y → y < e → k d[x]! < k d[y]! := by
  intro x y hx hxs hy hyb
  have q := hB (by omega) (by omega)
  have q1 : k d[x]! ≤ k d[s]! := by
    by_cases hc : x = s
    · rw [hc]; exact Nat.le_refl _
    · exact hl s x (by omega) (by omega) hxs
  have q2 : k d[e - 1]! ≤ k d[y]! := by
    by_cases hc : y = e - 1
    · rw [hc]; exact Nat.le_refl _
    · exact hr y (e - 1) hy (by omega) (by omega)
  omega
/-- both halves sorted, and nothing passed between them -/
theorem Cut.done {k : Nat → Nat} {a s c e b : Nat} {d f g : Array Nat} (h : Cut k a s c e b d) (hf : Mv a c d f) (hg : Mv c b f g) (s1 : Srt k a c f) (s2 : Srt k c b g) : Srt k a b g := by
  have hs1 : Srt k a c g := hg.srt_out s1 (.inl (Nat.le_refl _))
  refine hs1.join s2 fun x y hx hxc hy hyb => ?_
  obtain ⟨x', h1, h2, h3⟩ := hf.inn x hx hxc
  obtain ⟨y', h4, h5, h6⟩ := hg.inn y hy hyb
  rw [hg.out x (.inl hxc), h3, h6, hf.out y' (.inr h4)]
  exact h.cross x' y' h1 h2 h4 h5
/-- a to i is sorted but for the place j; what lies at j comes before all that lies behind it -/
structure InsA (k : Nat → Nat) (a j i : Nat) (d : Array Nat) : Prop where
  rest : ∀ p q, a ≤ p → p < q → q ≤ i → p ≠ j → q ≠ j → k d[q]! ≤ k d[p]!
  right : ∀ q, j < q → q ≤ i → k d[q]! < k d[j]!
theorem InsA.start {k : Nat → Nat} {a i : Nat} {d : Array Nat} (h : Srt k a i d) : InsA k a i i d := ⟨fun p q hp hpq hq h1 h2 => h p q hp hpq (by omega), fun q h1 h2 => by omega⟩
theorem InsA.stop {k : Nat → Nat} {a j i : Nat} {d : Array Nat} (h : InsA k a j i d) (hs : j ≤ a ∨ k d[j]! ≤ k d[j - 1]!) (haj : a ≤ j) : Srt k a (i + 1) d := by
  intro p q hp hpq hq
  by_cases h1 : p = j
  · subst h1; exact Nat.le_of_lt (h.right q hpq (by omega))
  · by_cases h2 : q = j
    · subst h2
      rcases hs with hs | hs
      · omega
      · by_cases h3 : p = q - 1
        · rw [h3]; exact hs
        · exact Nat.le_trans hs (h.rest p (q - 1) hp (by omega) (by omega) h1 (by omega))
    · exact h.rest p q hp hpq (by omega) h1 h2
theorem InsA.step {k : Nat → Nat} {a j i : Nat} {d : Array Nat} (h : InsA k a (j + 1) i d) (hs : k d[j]! < k d[j + 1]!) (hj : a ≤ j) (hji : j + 1 ≤ i) (hi : i < d.size) : InsA k a j i (swp d (j + 1) j) := by
  have hg := swp_get d (i := j + 1) (j := j) (by omega) (by omega)
  refine ⟨fun p q hp hpq hq h1 h2 => ?_, fun q h1 h2 => ?_⟩
  · rw [hg q, hg p, if_neg h2, if_neg h1]
    by_cases c1 : p = j + 1
    · rw [if_pos c1, if_neg (by omega)]; exact h.rest j q hj (by omega) hq (by omega) (by omega)
    · rw [if_neg c1]
      by_cases c2 : q = j + 1
      · rw [if_pos c2]; exact h.rest p j hp (by omega) (by omega) c1 (by omega)
      · rw [if_neg c2]; exact h.rest p q hp hpq hq c1 c2
  · rw [hg q, hg j, if_neg (by omega), if_pos rfl]
    by_cases c1 : q = j + 1
    · rw [if_pos c1]; exact hs
    · rw [if_neg c1]; exact h.right q (by omega) h2
theorem swp_mv {a b i j : Nat} (d : Array Nat) (hi : a ≤ i) (hib : i < b) (hj : a ≤ j) (hjb : j < b) (hb : b ≤ d.size) : Mv a b d (swp d i j) := by
  have hg := swp_get d (i := i) (j := j) (by omega) (by omega)
  refine ⟨swp_size _ _ _, fun x hx => by rw [hg x, if_neg (by omega), if_neg (by omega)], fun x h1 h2 => ?_⟩
  rw [hg x]
  by_cases c1 : x = j
  · exact ⟨i, hi, hib, by rw [if_pos c1]⟩
  · by_cases c2 : x = i
    · exact ⟨j, hj, hjb, by rw [if_neg c1, if_pos c2]⟩
    · exact ⟨x, h1, h2, by rw [if_neg c1, if_neg c2]⟩
theorem swp_rot (d : Array Nat) (j : Nat) (hj : j + 1 < d.size) : Rot j (j + 1) (j + 2) d (swp d (j + 1) j) := by
  have hg := swp_get d (i := j + 1) (j := j) (by omega) (by omega)
  refine ⟨swp_size _ _ _, fun x h1 h2 => ?_, fun x h1 h2 => ?_, fun x hx => by rw [hg x, if_neg (by omega), if_neg (by omega)]⟩
  · obtain rfl : x = j := by omega
    rw [hg, if_pos rfl]; congr 1; omega
  · obtain rfl : x = j + 1 := by omega
    rw [hg, if_neg (by omega), if_pos rfl]; congr 1; omega
theorem swp_stb {k : Nat → Nat} {d : Array Nat} {j : Nat} (hs : Stb k d) (hj : j + 1 < d.size) (hk : k d[j]! < k d[j + 1]!) : Stb k (swp d (j + 1) j) := by
  refine (swp_rot d j hj).stb (by omega) (by omega) (by omega) hs fun x y h1 h2 h3 h4 => ?_
  obtain rfl : x = j := by omega
  obtain rfl : y = x + 1 := by omega
  exact hk
end Go.Proofs.YtblfmfanfpohbaaGreat
