/- Dealing out by weights, as plain numbers: whole parts, rests, and who gets one more. -/
import Derived.Test.YtblfmfanfpohbaaGreatAid
namespace Go.Proofs.YtblfmfanfpohbaaGreat
set_option linter.unusedVariables false
/-- the sum of g over 0 .. n-1 -/
def sumN (n : Nat) (g : Nat → Nat) : Nat := ((List.range n).map g).sum
theorem sumN_zero (g : Nat → Nat) : sumN 0 g = 0 := rfl
theorem sumN_succ (n : Nat) (g : Nat → Nat) : sumN (n + 1) g = sumN n g + g n := by
  unfold sumN
  rw [List.range_succ, List.map_append, List.sum_append]
  simp
theorem sumN_congr {n : Nat} {g h : Nat → Nat} (e : ∀ i, i < n → g i = h i) : sumN n g = sumN n h := by
  induction n with
  | zero => rfl
  | succ n ih => rw [sumN_succ, sumN_succ, ih fun i hi => e i (by omega), e n (by omega)]
theorem sumN_add (n : Nat) (g h : Nat → Nat) : sumN n (fun i => g i + h i) = sumN n g + sumN n h := by
  induction n with
  | zero => rfl
  | succ n ih => rw [sumN_succ, sumN_succ, sumN_succ, ih]; omega
theorem sumN_mul (n c : Nat) (g : Nat → Nat) : sumN n (fun i => c * g i) = c * sumN n g := by
  induction n with
  | zero => simp [sumN_zero]
  | succ n ih => rw [sumN_succ, sumN_succ, ih, Nat.mul_add]
theorem sumN_le {n : Nat} {g h : Nat → Nat} (e : ∀ i, i < n → g i ≤ h i) : sumN n g ≤ sumN n h := by
  induction n with
  | zero => exact Nat.le_refl _
  | succ n ih => rw [sumN_succ, sumN_succ]; have := ih fun i hi => e i (by omega); have := e n (by omega); omega
theorem sumN_const (n c : Nat) : sumN n (fun _ => c) = n * c := by
  induction n with
  | zero => simp [sumN_zero]
  | succ n ih => rw [sumN_succ, ih, Nat.succ_mul]
theorem sumN_take {n p c : Nat} {g : Nat → Nat} (h1 : ∀ i, i < p → i < n → g i ≤ c) (h2 : ∀ i, p ≤ i → i < n → g i = 0) : sumN n g ≤ p * c := by
  induction n with
  | zero => exact Nat.zero_le _
  | succ n ih =>
    rw [sumN_succ]
    by_cases hp : p ≤ n
    · have := ih (fun i a b => h1 i a (by omega)) (fun i a b => h2 i a (by omega))
      have := h2 n hp (by omega)
      omega
    · have e1 : sumN n g ≤ sumN n (fun _ => c) := sumN_le fun i hi => h1 i (by omega) (by omega)
      rw [sumN_const] at e1
      have e2 := h1 n (by omega) (by omega)
      have e3 : (n + 1) * c ≤ p * c := Nat.mul_le_mul_right _ (by omega)
      rw [Nat.succ_mul] at e3
      omega
theorem sumN_lt (n m : Nat) (h : m ≤ n) : sumN n (fun q => if q < m then 1 else 0) = m := by
  induction n with
  | zero => rw [sumN_zero]; omega
  | succ n ih =>
    rw [sumN_succ]
    by_cases hm : m ≤ n
    · rw [ih hm, if_neg (by omega)]; omega
    · obtain rfl : m = n + 1 := by omega
      rw [if_pos (by omega), sumN_congr (h := fun _ => 1) fun i hi => if_pos (by omega), sumN_const]; omega
/-- the row f is a sorting of the places by k: greater first, of equal ones the first -/
structure Ord (n : Nat) (k f : Nat → Nat) : Prop where
  bnd : ∀ i, i < n → f i < n
  lt : ∀ i j, i < j → j < n → k (f j) ≤ k (f i) ∧ (k (f i) = k (f j) → f i < f j)
theorem Ord.inj {n : Nat} {k f : Nat → Nat} (h : Ord n k f) {i j : Nat} (hi : i < n) (hj : j < n) (e : f i = f j) : i = j := by
  rcases Nat.lt_trichotomy i j with c | c | c
  · have := (h.lt i j c hj).2 (by rw [e]); omega
  · exact c
  · have := (h.lt j i c hi).2 (by rw [e]); omega
theorem surj_of_inj : ∀ (n : Nat) (f : Nat → Nat), (∀ i, i < n → f i < n) → (∀ i j, i < n → j < n → f i = f j → i = j) → ∀ x, x < n → ∃ i, i < n ∧ f i = x := by
  intro n
  induction n with
  | zero => intro f _ _ x hx; omega
  | succ n ih =>
    intro f hb hj x hx
    let g : Nat → Nat := fun i => if f i = n then f n else f i
    have gb : ∀ i, i < n → g i < n := by
      intro i hi
      show (if f i = n then f n else f i) < n
      split
      · rename_i c
        have h1 := hb n (by omega)
        have h2 : f n ≠ n := fun c2 => by have := hj i n (by omega) (by omega) (by omega); omega
        omega
      · have := hb i (by omega); omega
    have gj : ∀ i j, i < n → j < n → g i = g j → i = j := by
      intro i j hi hj2 e
      have e' : (if f i = n then f n else f i) = (if f j = n then f n else f j) := e
      split at e' <;> split at e'
      · exact hj i j (by omega) (by omega) (by omega)
      · have := hj n j (by omega) (by omega) e'; omega
      · have := hj i n (by omega) (by omega) e'; omega
      · exact hj i j (by omega) (by omega) e'
    by_cases hxn : x = f n
    · exact ⟨n, by omega, hxn.symm⟩
    · by_cases hx2 : x = n
      · -- some f i is n
        by_cases hex : ∃ i, i < n ∧ f i = n
        · obtain ⟨i, h1, h2⟩ := hex
          exact ⟨i, by omega, by omega⟩
        · exfalso
          have hfn : f n < n := by have := hb n (by omega); omega
          obtain ⟨i, h1, h2⟩ := ih g gb gj (f n) hfn
          have h3 : f i ≠ n := fun c => hex ⟨i, h1, c⟩
          have h4 : g i = f i := if_neg h3
          have := hj i n (by omega) (by omega) (by omega)
          omega
      · obtain ⟨i, h1, h2⟩ := ih g gb gj x (by omega)
        have h2' : (if f i = n then f n else f i) = x := h2
        split at h2'
        · exact absurd h2'.symm hxn
        · exact ⟨i, by omega, h2'⟩
theorem Ord.surj {n : Nat} {k f : Nat → Nat} (h : Ord n k f) (x : Nat) (hx : x < n) : ∃ i, i < n ∧ f i = x :=
  surj_of_inj n f h.bnd (fun _ _ hi hj e => h.inj hi hj e) x hx
theorem Ord.perm {n : Nat} {k f : Nat → Nat} (h : Ord n k f) : ((List.range n).map f).Perm (List.range n) := by
  refine (List.perm_ext_iff_of_nodup ?_ List.nodup_range).2 fun x => ?_
  · rw [List.nodup_iff_pairwise_ne, List.pairwise_map]
    refine List.Pairwise.imp_of_mem (R := fun a b => a < b) (fun {a b} ha hb hab => ?_) List.pairwise_lt_range
    rw [List.mem_range] at ha hb
    intro e
    have := h.inj ha hb e
    omega
  · rw [List.mem_map, List.mem_range]
    constructor
    · rintro ⟨i, hi, rfl⟩
      exact h.bnd i (List.mem_range.1 hi)
    · intro hx
      obtain ⟨i, h1, h2⟩ := h.surj x hx
      exact ⟨i, List.mem_range.2 h1, h2⟩
theorem Ord.sum {n : Nat} {k f : Nat → Nat} (h : Ord n k f) (g : Nat → Nat) : sumN n (fun q => g (f q)) = sumN n g := by
  unfold sumN
  have := (h.perm.map g).sum_nat
  rw [List.map_map] at this
  exact this
/-- j is ahead of i -/
def Ahd (k : Nat → Nat) (j i : Nat) : Prop := k i < k j ∨ (k j = k i ∧ j < i)
instance (k : Nat → Nat) (j i : Nat) : Decidable (Ahd k j i) := by unfold Ahd; infer_instance
theorem Ord.ahd {n : Nat} {k f : Nat → Nat} (h : Ord n k f) {p q : Nat} (hp : p < n) (hq : q < n) : Ahd k (f q) (f p) ↔ q < p := by
  unfold Ahd
  rcases Nat.lt_trichotomy q p with c | c | c
  · have := h.lt q p c hp
    constructor
    · intro _; exact c
    · intro _
      by_cases e : k (f q) = k (f p)
      · exact .inr ⟨e, this.2 e⟩
      · exact .inl (by omega)
  · subst c
    constructor
    · rintro (e | ⟨_, e⟩) <;> omega
    · intro e; omega
  · have := h.lt p q c hq
    constructor
    · rintro (e | ⟨e, e'⟩)
      · omega
      · have := this.2 e.symm; omega
    · intro e; omega
/-- how many are ahead of i -/
def ahead (n : Nat) (k : Nat → Nat) (i : Nat) : Nat := sumN n fun j => if Ahd k j i then 1 else 0
theorem Ord.at {n : Nat} {k f : Nat → Nat} (h : Ord n k f) {p : Nat} (hp : p < n) : ahead n k (f p) = p := by
  unfold ahead
  rw [← h.sum (fun j => if Ahd k j (f p) then 1 else 0)]
  rw [sumN_congr (h := fun q => if q < p then 1 else 0) fun q hq => by
    by_cases c : q < p
    · rw [if_pos c, if_pos ((h.ahd hp hq).2 c)]
    · rw [if_neg c, if_neg fun hh => c ((h.ahd hp hq).1 hh)]]
  exact sumN_lt n p (by omega)
theorem Ord.first {n : Nat} {k f : Nat → Nat} (h : Ord n k f) {x left : Nat} (hx : x < n) (hl : left ≤ n) : (∃ p, p < left ∧ f p = x) ↔ ahead n k x < left := by
  constructor
  · rintro ⟨p, hp, rfl⟩
    rw [h.at (by omega)]; exact hp
  · intro ha
    obtain ⟨p, hp, rfl⟩ := h.surj x hx
    rw [h.at hp] at ha
    exact ⟨p, ha, rfl⟩
/-- the whole part, the rest -/
def quo (T W : Nat) (wt : Nat → Nat) (i : Nat) : Nat := T * wt i / W
def rst (T W : Nat) (wt : Nat → Nat) (i : Nat) : Nat := T * wt i % W
/-- what is left over -/
def lft (n T W : Nat) (wt : Nat → Nat) : Nat := T - sumN n (quo T W wt)
theorem quo_rst {T W : Nat} {wt : Nat → Nat} (i : Nat) : W * quo T W wt i + rst T W wt i = T * wt i := Nat.div_add_mod _ _
theorem sum_quo {n T W : Nat} {wt : Nat → Nat} (hW : W = sumN n wt) (h0 : 0 < W) : sumN n (quo T W wt) ≤ T ∧ W * lft n T W wt = sumN n (rst T W wt) := by
  have h : sumN n (fun i => W * quo T W wt i + rst T W wt i) = sumN n (fun i => T * wt i) := sumN_congr fun i _ => quo_rst i
  rw [sumN_add, sumN_mul, sumN_mul, ← hW, Nat.mul_comm T W] at h
  have h1 : W * sumN n (quo T W wt) ≤ W * T := by omega
  have h2 := Nat.le_of_mul_le_mul_left h1 h0
  refine ⟨h2, ?_⟩
  unfold lft
  rw [Nat.mul_sub]
  omega
theorem lft_lt {n T W : Nat} {wt : Nat → Nat} (hW : W = sumN n wt) (h0 : 0 < W) (hn : 0 < n) : lft n T W wt < n := by
  have h1 := (sum_quo (T := T) hW h0).2
  have h2 : sumN n (rst T W wt) ≤ sumN n (fun _ => W - 1) := sumN_le fun i _ => by
    have : rst T W wt i < W := Nat.mod_lt _ h0
    omega
  rw [sumN_const, ← h1] at h2
  by_cases c : n ≤ lft n T W wt
  · exfalso
    have h3 : W * n ≤ W * lft n T W wt := Nat.mul_le_mul_left _ c
    have h4 : W * n ≤ n * (W - 1) := Nat.le_trans h3 h2
    rw [Nat.mul_comm n (W - 1), Nat.mul_comm W n, Nat.mul_comm n W] at h4
    have h5 : (W - 1) * n + n = W * n := by
      obtain ⟨V, rfl⟩ : ∃ V, W = V + 1 := ⟨W - 1, by omega⟩
      rw [Nat.add_sub_cancel, Nat.succ_mul]
    omega
  · omega
/-- who gets one more has a rest -/
theorem Ord.some {n T W : Nat} {wt f : Nat → Nat} (h : Ord n (rst T W wt) f) (hW : W = sumN n wt) (h0 : 0 < W) {p : Nat} (hp : p < lft n T W wt) (hpn : p < n) : 0 < rst T W wt (f p) := by
  rcases Nat.eq_zero_or_pos (rst T W wt (f p)) with c | c
  · exfalso
    have h1 := (sum_quo (T := T) hW h0).2
    rw [← h.sum (rst T W wt)] at h1
    have h2 : sumN n (fun q => rst T W wt (f q)) ≤ p * (W - 1) := sumN_take (fun i _ _ => by
      have : rst T W wt (f i) < W := Nat.mod_lt _ h0
      omega) (fun i a b => by
      by_cases e : i = p
      · rw [e]; exact c
      · have := (h.lt p i (by omega) b).1; omega)
    rw [← h1] at h2
    have h3 : W * (p + 1) ≤ W * lft n T W wt := Nat.mul_le_mul_left _ hp
    have h4 : p * (W - 1) ≤ p * W := Nat.mul_le_mul_left _ (by omega)
    have h5 : W * (p + 1) = p * W + W := by rw [Nat.mul_add, Nat.mul_comm W p, Nat.mul_one]
    omega
  · exact c
/-- what each one gets -/
def shp (n T W : Nat) (wt : Nat → Nat) (i : Nat) : Nat := quo T W wt i + if ahead n (rst T W wt) i < lft n T W wt then 1 else 0
theorem shp_sum {n T W : Nat} {wt f : Nat → Nat} (h : Ord n (rst T W wt) f) (hW : W = sumN n wt) (h0 : 0 < W) (hn : 0 < n) : sumN n (shp n T W wt) = T := by
  have h1 := sum_quo (T := T) hW h0
  have h2 := lft_lt (T := T) hW h0 hn
  have h3 : sumN n (fun i => if ahead n (rst T W wt) i < lft n T W wt then 1 else 0) = lft n T W wt := by
    rw [← h.sum (fun i => if ahead n (rst T W wt) i < lft n T W wt then 1 else 0)]
    rw [sumN_congr (h := fun q => if q < lft n T W wt then 1 else 0) fun q hq => by rw [h.at hq]]
    exact sumN_lt n _ (by omega)
  have h4 : sumN n (shp n T W wt) = sumN n (quo T W wt) + lft n T W wt := by
    rw [← h3]; exact sumN_add n _ _
  rw [h4]
  have h5 : lft n T W wt = T - sumN n (quo T W wt) := rfl
  omega
theorem shp_none {n T W : Nat} {wt f : Nat → Nat} (h : Ord n (rst T W wt) f) (hW : W = sumN n wt) (h0 : 0 < W) (hn : 0 < n) {i : Nat} (hi : i < n) (hz : wt i = 0) : shp n T W wt i = 0 := by
  have hq : quo T W wt i = 0 := by unfold quo; rw [hz, Nat.mul_zero, Nat.zero_div]
  have hr : rst T W wt i = 0 := by unfold rst; rw [hz, Nat.mul_zero, Nat.zero_mod]
  have h2 := lft_lt (T := T) hW h0 hn
  unfold shp
  rw [hq, if_neg fun c => ?_]
  obtain ⟨p, hp, e⟩ := (h.first hi (by omega)).2 c
  have := h.some hW h0 hp (by omega)
  rw [e, hr] at this
  omega
theorem shp_fair {n T W : Nat} {wt f : Nat → Nat} (h : Ord n (rst T W wt) f) (hW : W = sumN n wt) (h0 : 0 < W) (hn : 0 < n) {i j : Nat} (hi : i < n) (hj : j < n) (hw : wt i < wt j) : shp n T W wt i ≤ shp n T W wt j := by
  have h2 := lft_lt (T := T) hW h0 hn
  have hm : T * wt i ≤ T * wt j := Nat.mul_le_mul_left _ (by omega)
  have hq : quo T W wt i ≤ quo T W wt j := Nat.div_le_div_right hm
  unfold shp
  by_cases hi1 : ahead n (rst T W wt) i < lft n T W wt
  · rw [if_pos hi1]
    by_cases hqe : quo T W wt i = quo T W wt j
    · obtain ⟨p, hp, e⟩ := (h.first hi (by omega)).2 hi1
      have hr := h.some hW h0 hp (by omega)
      rw [e] at hr
      have hT : 0 < T := by
        rcases Nat.eq_zero_or_pos T with c | c
        · subst c; unfold rst at hr; rw [Nat.zero_mul, Nat.zero_mod] at hr; omega
        · exact c
      have hlt : T * wt i < T * wt j := Nat.mul_lt_mul_of_pos_left hw hT
      have e1 := quo_rst (T := T) (W := W) (wt := wt) i
      have e2 := quo_rst (T := T) (W := W) (wt := wt) j
      rw [hqe] at e1
      have hrr : rst T W wt i < rst T W wt j := by omega
      obtain ⟨q, hq1, hq2⟩ := h.surj j hj
      have hqp : q < p := (h.ahd (p := p) (q := q) (by omega) hq1).1 (.inl (by rw [e, hq2]; exact hrr))
      rw [if_pos ((h.first hj (by omega)).1 ⟨q, by omega, hq2⟩)]
      omega
    · have : quo T W wt i + 1 ≤ quo T W wt j := by omega
      omega
  · rw [if_neg hi1]; omega
end Go.Proofs.YtblfmfanfpohbaaGreat
