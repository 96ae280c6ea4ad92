/- Plain mathematics of the check sum: its register is linear over exclusive or, and one to one. -/
namespace Go.Proofs.YtpjikkhcimghaaaDoor.Crcm

def poly : Nat := 3988292384
def sh (c : Nat) : Nat := if c % 2 = 1 then (c / 2) ^^^ poly else c / 2
def shN : Nat → Nat → Nat
  | 0, c => c
  | n + 1, c => shN n (sh c)

theorem xor_left_comm (a b c : Nat) : a ^^^ (b ^^^ c) = b ^^^ (a ^^^ c) := by
  rw [← Nat.xor_assoc, Nat.xor_comm a b, Nat.xor_assoc]
theorem xor_cancel (a b : Nat) : a ^^^ (a ^^^ b) = b := by
  rw [← Nat.xor_assoc, Nat.xor_self, Nat.zero_xor]
theorem xor_inj (a b c : Nat) (h : a ^^^ b = a ^^^ c) : b = c := by
  have := congrArg (a ^^^ ·) h
  simpa [xor_cancel] using this
theorem xor_eq_zero (a b : Nat) (h : a ^^^ b = 0) : a = b := by
  have := congrArg (a ^^^ ·) h
  simp only [xor_cancel, Nat.xor_zero] at this
  exact this.symm

theorem sh_xor (a b : Nat) : sh (a ^^^ b) = sh a ^^^ sh b := by
  unfold sh
  have hm := @Nat.xor_mod_two_eq_one a b
  rw [Nat.xor_div_two]
  by_cases ha : a % 2 = 1 <;> by_cases hb : b % 2 = 1
  · have h : ¬ (a ^^^ b) % 2 = 1 := fun h => hm.1 h (by simp [ha, hb])
    rw [if_neg h, if_pos ha, if_pos hb, Nat.xor_assoc, xor_left_comm poly, Nat.xor_self, Nat.xor_zero]
  · have h : (a ^^^ b) % 2 = 1 := hm.2 (by simp [ha, hb])
    rw [if_pos h, if_pos ha, if_neg hb, Nat.xor_assoc, Nat.xor_assoc, Nat.xor_comm poly]
  · have h : (a ^^^ b) % 2 = 1 := hm.2 (by simp [ha, hb])
    rw [if_pos h, if_neg ha, if_pos hb, Nat.xor_assoc]
  · have h : ¬ (a ^^^ b) % 2 = 1 := fun h => hm.1 h (by simp [ha, hb])
    rw [if_neg h, if_neg ha, if_neg hb]

theorem shN_xor (n a b : Nat) : shN n (a ^^^ b) = shN n a ^^^ shN n b := by
  induction n generalizing a b with
  | zero => rfl
  | succ n ih => show shN n (sh _) = _; rw [sh_xor, ih]; rfl

theorem sh_zero : sh 0 = 0 := rfl
theorem shN_zero (n : Nat) : shN n 0 = 0 := by
  induction n with
  | zero => rfl
  | succ n ih => show shN n (sh 0) = 0; rw [sh_zero, ih]

theorem shN_add (m n c : Nat) : shN (m + n) c = shN n (shN m c) := by
  induction m generalizing c with
  | zero => simp [shN]
  | succ m ih => rw [Nat.succ_add]; show shN (m + n) (sh c) = _; rw [ih]; rfl

theorem sh_double (m : Nat) : sh (2 * m) = m := by
  unfold sh; rw [if_neg (by omega)]; omega
theorem shN_pow (n m : Nat) : shN n (2 ^ n * m) = m := by
  induction n generalizing m with
  | zero => simp [shN]
  | succ n ih =>
    show shN n (sh _) = m
    rw [Nat.pow_succ, Nat.mul_comm (2 ^ n) 2, Nat.mul_assoc, sh_double, ih]

theorem sh_lt (c : Nat) (h : c < 2 ^ 32) : sh c < 2 ^ 32 := by
  unfold sh
  split
  · exact Nat.xor_lt_two_pow (by omega) (by decide)
  · omega
theorem shN_lt (n c : Nat) (h : c < 2 ^ 32) : shN n c < 2 ^ 32 := by
  induction n generalizing c with
  | zero => exact h
  | succ n ih => exact ih _ (sh_lt _ h)

theorem sh_eq_zero (c : Nat) (h : c < 2 ^ 32) (e : sh c = 0) : c = 0 := by
  unfold sh at e
  split at e
  · exfalso
    have := xor_eq_zero _ _ e
    unfold poly at this
    omega
  · omega
theorem shN_eq_zero (n c : Nat) (h : c < 2 ^ 32) (e : shN n c = 0) : c = 0 := by
  induction n generalizing c with
  | zero => exact e
  | succ n ih => exact sh_eq_zero _ h (ih _ (sh_lt _ h) e)
theorem shN_inj (n a b : Nat) (ha : a < 2 ^ 32) (hb : b < 2 ^ 32) (e : shN n a = shN n b) : a = b := by
  have : shN n (a ^^^ b) = 0 := by rw [shN_xor, e, Nat.xor_self]
  exact xor_eq_zero _ _ (shN_eq_zero n _ (Nat.xor_lt_two_pow ha hb) this)

/-- the register behind one more byte -/
def take (c x : Nat) : Nat := shN 8 (c ^^^ x)
def upd (c : Nat) (l : List Nat) : Nat := l.foldl take c
/-- little-endian value -/
def val : List Nat → Nat
  | [] => 0
  | x :: l => x + 256 * val l

theorem add_eq_xor (n x y : Nat) (h : x < 2 ^ n) : x + 2 ^ n * y = x ^^^ (2 ^ n * y) := by
  apply Nat.eq_of_testBit_eq
  intro i
  rw [Nat.testBit_xor, Nat.testBit_two_pow_mul, Nat.add_comm, Nat.testBit_two_pow_mul_add _ h]
  by_cases hi : i < n
  · have h3 : ¬ n ≤ i := by omega
    simp [hi, h3]
  · have : x.testBit i = false := Nat.testBit_lt_two_pow (Nat.lt_of_lt_of_le h (Nat.pow_le_pow_right (by omega) (by omega)))
    have h3 : n ≤ i := by omega
    simp [hi, this, h3]

theorem upd_val (c : Nat) (l : List Nat) (hl : ∀ x ∈ l, x < 256) : upd c l = shN (8 * l.length) (c ^^^ val l) := by
  induction l generalizing c with
  | nil => simp [upd, val, shN]
  | cons x l ih =>
    have hx : x < 2 ^ 8 := hl x (by simp)
    show upd (take c x) l = _
    rw [ih _ (fun y hy => hl y (by simp [hy]))]
    have e : shN 8 (c ^^^ (x + 2 ^ 8 * val l)) = take c x ^^^ val l := by
      rw [add_eq_xor 8 _ _ hx, ← Nat.xor_assoc, shN_xor, shN_pow]; unfold take; rfl
    rw [List.length_cons, Nat.mul_add, Nat.mul_one, Nat.add_comm (8 * l.length) 8, shN_add, ← e]
    simp only [val]

theorem val_lt (l : List Nat) (hl : ∀ x ∈ l, x < 256) : val l < 2 ^ (8 * l.length) := by
  induction l with
  | nil => simp [val]
  | cons x l ih =>
    have hx : x < 256 := hl x (by simp)
    have := ih (fun y hy => hl y (by simp [hy]))
    show x + 256 * val l < 2 ^ (8 * (l.length + 1))
    rw [show 8 * (l.length + 1) = 8 * l.length + 8 from by omega, Nat.pow_add]
    omega

theorem val_inj (l m : List Nat) (hl : ∀ x ∈ l, x < 256) (hm : ∀ x ∈ m, x < 256) (hn : l.length = m.length) (e : val l = val m) : l = m := by
  induction l generalizing m with
  | nil => cases m <;> simp_all
  | cons x l ih =>
    cases m with
    | nil => simp at hn
    | cons y m =>
      have hx : x < 256 := hl x (by simp)
      have hy : y < 256 := hm y (by simp)
      simp only [val] at e
      have e1 : x = y := by omega
      have e2 : val l = val m := by omega
      rw [e1, ih m (fun y hy => hl y (by simp [hy])) (fun y hy => hm y (by simp [hy])) (by simpa using hn) e2]

theorem val_append (l m : List Nat) : val (l ++ m) = val l + 2 ^ (8 * l.length) * val m := by
  induction l with
  | nil => simp [val]
  | cons x l ih =>
    show x + 256 * val (l ++ m) = x + 256 * val l + 2 ^ (8 * (l.length + 1)) * val m
    rw [ih, show 8 * (l.length + 1) = 8 * l.length + 8 from by omega, Nat.pow_add]
    grind

def ones : Nat := 4294967295
theorem ones_sub (s : Nat) (h : s < 2 ^ 32) : ones - s = s ^^^ ones := by
  have : (ones - s) ^^^ s = ones := by
    apply Nat.eq_of_testBit_eq
    intro i
    rw [Nat.testBit_xor]
    show ((2 ^ 32 - 1 - s).testBit i ^^ s.testBit i) = (2 ^ 32 - 1).testBit i
    rw [Nat.sub_sub, Nat.add_comm 1 s, Nat.testBit_two_pow_sub_succ h, Nat.testBit_two_pow_sub_one]
    by_cases hi : i < 32
    · simp [hi]
    · have : s.testBit i = false := Nat.testBit_lt_two_pow (Nat.lt_of_lt_of_le h (Nat.pow_le_pow_right (by omega) (by omega)))
      simp [hi, this]
  have h2 := congrArg (· ^^^ s) this
  simp only [Nat.xor_assoc, Nat.xor_self, Nat.xor_zero] at h2
  rw [h2, Nat.xor_comm]

/-- Update of a sum -/
def update (s : Nat) (l : List Nat) : Nat := upd (s ^^^ ones) l ^^^ ones
def sum (l : List Nat) : Nat := update 0 l

theorem upd_append (c : Nat) (l m : List Nat) : upd c (l ++ m) = upd (upd c l) m := by simp [upd]
theorem update_append (s : Nat) (l m : List Nat) : update s (l ++ m) = update (update s l) m := by
  unfold update; rw [upd_append, Nat.xor_assoc (upd _ l), Nat.xor_self, Nat.xor_zero]
theorem take_lt (c x : Nat) (hc : c < 2 ^ 32) (hx : x < 256) : take c x < 2 ^ 32 :=
  shN_lt _ _ (Nat.xor_lt_two_pow hc (by omega))
theorem upd_lt (c : Nat) (l : List Nat) (hc : c < 2 ^ 32) (hl : ∀ x ∈ l, x < 256) : upd c l < 2 ^ 32 := by
  induction l generalizing c with
  | nil => exact hc
  | cons x l ih => exact ih _ (take_lt _ _ hc (hl x (by simp))) (fun y hy => hl y (by simp [hy]))
theorem update_lt (s : Nat) (l : List Nat) (hc : s < 2 ^ 32) (hl : ∀ x ∈ l, x < 256) : update s l < 2 ^ 32 :=
  Nat.xor_lt_two_pow (upd_lt _ _ (Nat.xor_lt_two_pow hc (by decide)) hl) (by decide)
theorem sum_lt (l : List Nat) (hl : ∀ x ∈ l, x < 256) : sum l < 2 ^ 32 := update_lt _ _ (by decide) hl

/-- four bytes of a sum -/
def four (s : Nat) : List Nat := [s % 256, s / 256 % 256, s / 65536 % 256, s / 16777216]
theorem four_lt (s : Nat) (h : s < 2 ^ 32) : ∀ x ∈ four s, x < 256 := by
  intro x hx; simp [four] at hx; omega
theorem four_val (s : Nat) : val (four s) = s := by
  simp [four, val]; omega
theorem four_inj (s t : Nat) (e : four s = four t) : s = t := by
  rw [← four_val s, e, four_val]

theorem upd_four (c v : Nat) (hv : v < 2 ^ 32) : upd c (four v) = shN 32 (c ^^^ v) := by
  rw [upd_val _ _ (four_lt v hv), four_val]; rfl

/-- a text ends with its own sum just where its register comes to one number -/
theorem closed_iff (p q : List Nat) (hp : ∀ x ∈ p, x < 256) (hq : ∀ x ∈ q, x < 256) (hn : q.length = 4) :
    q = four (sum p) ↔ upd ones (p ++ q) = shN 32 ones := by
  have hs := sum_lt p hp
  have hvq := val_lt q hq
  rw [hn] at hvq
  have hc : upd ones p = sum p ^^^ ones := by
    unfold sum update; rw [Nat.zero_xor, Nat.xor_assoc, Nat.xor_self, Nat.xor_zero]
  have hu : upd ones (p ++ q) = shN 32 (sum p ^^^ ones ^^^ val q) := by
    rw [upd_append, upd_val _ q hq, hn, hc]
  rw [hu]
  constructor
  · intro e
    rw [e, four_val, Nat.xor_comm (sum p), Nat.xor_assoc, Nat.xor_self, Nat.xor_zero]
  · intro e
    have := shN_inj 32 _ _ (Nat.xor_lt_two_pow (Nat.xor_lt_two_pow hs (by decide)) hvq) (by decide) e
    have h2 : sum p ^^^ val q = 0 := by
      have h3 : ones ^^^ (sum p ^^^ val q) = ones ^^^ 0 := by
        rw [Nat.xor_zero, ← Nat.xor_assoc, Nat.xor_comm ones]; exact this
      exact xor_inj _ _ _ h3
    have h4 := xor_eq_zero _ _ h2
    exact val_inj _ _ hq (four_lt _ hs) (by rw [hn]; rfl) (by rw [four_val, h4])

/-- THE BURST -/
theorem burst (L at' P : Nat) (hP : P < 2 ^ 32) (hat : at' < 8 * L) (c v : Nat)
    (h : shN (8 * L) (c ^^^ (v ^^^ (2 ^ at' * (P % 2 ^ (8 * L - at'))))) = shN (8 * L) (c ^^^ v)) : P % 2 ^ (8 * L - at') = 0 := by
  rw [← Nat.xor_assoc, shN_xor _ (c ^^^ v)] at h
  have h2 : shN (8 * L) (2 ^ at' * (P % 2 ^ (8 * L - at'))) = 0 := by
    refine xor_inj (shN (8 * L) (c ^^^ v)) _ _ ?_
    rw [h, Nat.xor_zero]
  rw [show 8 * L = at' + (8 * L - at') from by omega, shN_add] at h2
  rw [show at' + (8 * L - at') - at' = 8 * L - at' from by omega, shN_pow] at h2
  exact shN_eq_zero _ _ (Nat.lt_of_le_of_lt (Nat.mod_le _ _) hP) h2
end Go.Proofs.YtpjikkhcimghaaaDoor.Crcm
