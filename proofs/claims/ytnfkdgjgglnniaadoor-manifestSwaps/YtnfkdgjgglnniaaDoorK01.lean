/- Own texts, joined: Cm, Crc. -/
import Derived.Test.YtnfkdgjgglnniaaDoorRows
import Derived.Test.YtnfkdgjgglnniaaDoorK00
namespace Go.Proofs.YtnfkdgjgglnniaaDoor.Crcm

def poly : Nat := 3988292384
def sh (c : Nat) : Nat := if c % 2 = 1 then (c / 2) ^^^ poly else c / 2
def shN : Nat → Nat → Nat
  | 0, c => c
  | n + 1, c => shN n (sh c)

theorem xor_left_comm (a b c : Nat) : a ^^^ (b ^^^ c) = b ^^^ (a ^^^ c) := by
  rw [← Nat.xor_assoc, Nat.xor_comm a b, Nat.xor_assoc]
theorem xor_cancel (a b : Nat) : a ^^^ (a ^^^ b) = b := by
  rw [← Nat.xor_assoc, Nat.xor_self, Nat.zero_xor]
theorem xor_inj (a b c : Nat) (h : a ^^^ b = a ^^^ c) : b = c := by
  have := congrArg (a ^^^ ·) h
  simpa [xor_cancel] using this
theorem xor_eq_zero (a b : Nat) (h : a ^^^ b = 0) : a = b := by
  have := congrArg (a ^^^ ·) h
  simp only [xor_cancel, Nat.xor_zero] at this
  exact this.symm

theorem sh_xor (a b : Nat) : sh (a ^^^ b) = sh a ^^^ sh b := by
  unfold sh
  have hm := @Nat.xor_mod_two_eq_one a b
  rw [Nat.xor_div_two]
  by_cases ha : a % 2 = 1 <;> by_cases hb : b % 2 = 1
  · have h : ¬ (a ^^^ b) % 2 = 1 := fun h => hm.1 h (by simp [ha, hb])
    rw [if_neg h, if_pos ha, if_pos hb, Nat.xor_assoc, xor_left_comm poly, Nat.xor_self, Nat.xor_zero]
  · have h : (a ^^^ b) % 2 = 1 := hm.2 (by simp [ha, hb])
    rw [if_pos h, if_pos ha, if_neg hb, Nat.xor_assoc, Nat.xor_assoc, Nat.xor_comm poly]
  · have h : (a ^^^ b) % 2 = 1 := hm.2 (by simp [ha, hb])
    rw [if_pos h, if_neg ha, if_pos hb, Nat.xor_assoc]
  · have h : ¬ (a ^^^ b) % 2 = 1 := fun h => hm.1 h (by simp [ha, hb])
    rw [if_neg h, if_neg ha, if_neg hb]

theorem shN_xor (n a b : Nat) : shN n (a ^^^ b) = shN n a ^^^ shN n b := by
  induction n generalizing a b with
  | zero => rfl
  | succ n ih => show shN n (sh _) = _; rw [sh_xor, ih]; rfl

theorem sh_zero : sh 0 = 0 := rfl
theorem shN_zero (n : Nat) : shN n 0 = 0 := by
  induction n with
  | zero => rfl
  | succ n ih => show shN n (sh 0) = 0; rw [sh_zero, ih]

theorem shN_add (m n c : Nat) : shN (m + n) c = shN n (shN m c) := by
  induction m generalizing c with
  | zero => simp [shN]
  | succ m ih => rw [Nat.succ_add]; show shN (m + n) (sh c) = _; rw [ih]; rfl

theorem sh_double (m : Nat) : sh (2 * m) = m := by
  unfold sh; rw [if_neg (by omega)]; omega
theorem shN_pow (n m : Nat) : shN n (2 ^ n * m) = m := by
  induction n generalizing m with
  | zero => simp [shN]
  | succ n ih =>
    show shN n (sh _) = m
    rw [Nat.pow_succ, Nat.mul_comm (2 ^ n) 2, Nat.mul_assoc, sh_double, ih]

theorem sh_lt (c : Nat) (h : c < 2 ^ 32) : sh c < 2 ^ 32 := by
  unfold sh
  split
  · exact Nat.xor_lt_two_pow (by omega) (by decide)
  · omega
theorem shN_lt (n c : Nat) (h : c < 2 ^ 32) : shN n c < 2 ^ 32 := by
  induction n generalizing c with
  | zero => exact h
  | succ n ih => exact ih _ (sh_lt _ h)

theorem sh_eq_zero (c : Nat) (h : c < 2 ^ 32) (e : sh c = 0) : c = 0 := by
  unfold sh at e
  split at e
  · exfalso
    have := xor_eq_zero _ _ e
    unfold poly at this
    omega
  · omega
theorem shN_eq_zero (n c : Nat) (h : c < 2 ^ 32) (e : shN n c = 0) : c = 0 := by
  induction n generalizing c with
  | zero => exact e
  | succ n ih => exact sh_eq_zero _ h (ih _ (sh_lt _ h) e)
theorem shN_inj (n a b : Nat) (ha : a < 2 ^ 32) (hb : b < 2 ^ 32) (e : shN n a = shN n b) : a = b := by
  have : shN n (a ^^^ b) = 0 := by rw [shN_xor, e, Nat.xor_self]
  exact xor_eq_zero _ _ (shN_eq_zero n _ (Nat.xor_lt_two_pow ha hb) this)

/-- the register behind one more byte -/
def take (c x : Nat) : Nat := shN 8 (c ^^^ x)
def upd (c : Nat) (l : List Nat) : Nat := l.foldl take c
/-- little-endian value -/
def val : List Nat → Nat
  | [] => 0
  | x :: l => x + 256 * val l

theorem add_eq_xor (n x y : Nat) (h : x < 2 ^ n) : x + 2 ^ n * y = x ^^^ (2 ^ n * y) := by
  apply Nat.eq_of_testBit_eq
  intro i
  rw [Nat.testBit_xor, Nat.testBit_two_pow_mul, Nat.add_comm, Nat.testBit_two_pow_mul_add _ h]
  by_cases hi : i < n
  · have h3 : ¬ n ≤ i := by omega
    simp [hi, h3]
  · have : x.testBit i = false := Nat.testBit_lt_two_pow (Nat.lt_of_lt_of_le h (Nat.pow_le_pow_right (by omega) (by omega)))
    have h3 : n ≤ i := by omega
    simp [hi, this, h3]

theorem upd_val (c : Nat) (l : List Nat) (hl : ∀ x ∈ l, x < 256) : upd c l = shN (8 * l.length) (c ^^^ val l) := by
  induction l generalizing c with
  | nil => simp [upd, val, shN]
  | cons x l ih =>
    have hx : x < 2 ^ 8 := hl x (by simp)
    show upd (take c x) l = _
    rw [ih _ (fun y hy => hl y (by simp [hy]))]
    have e : shN 8 (c ^^^ (x + 2 ^ 8 * val l)) = take c x ^^^ val l := by
      rw [add_eq_xor 8 _ _ hx, ← Nat.xor_assoc, shN_xor, shN_pow]; unfold take; rfl
    rw [List.length_cons, Nat.mul_add, Nat.mul_one, Nat.add_comm (8 * l.length) 8, shN_add, ← e]
    simp only [val]

theorem val_lt (l : List Nat) (hl : ∀ x ∈ l, x < 256) : val l < 2 ^ (8 * l.length) := by
  induction l with
  | nil => simp [val]
  | cons x l ih =>
    have hx : x < 256 := hl x (by simp)
    have := ih (fun y hy => hl y (by simp [hy]))
    show x + 256 * val l < 2 ^ (8 * (l.length + 1))
    rw [show 8 * (l.length + 1) = 8 * l.length + 8 from by omega, Nat.pow_add]
    omega

theorem val_inj (l m : List Nat) (hl : ∀ x ∈ l, x < 256) (hm : ∀ x ∈ m, x < 256) (hn : l.length = m.length) (e : val l = val m) : l = m := by
  induction l generalizing m with
  | nil => cases m <;> simp_all
  | cons x l ih =>
    cases m with
    | nil => simp at hn
    | cons y m =>
      have hx : x < 256 := hl x (by simp)
      have hy : y < 256 := hm y (by simp)
      simp only [val] at e
      have e1 : x = y := by omega
      have e2 : val l = val m := by omega
      rw [e1, ih m (fun y hy => hl y (by simp [hy])) (fun y hy => hm y (by simp [hy])) (by simpa using hn) e2]

theorem val_append (l m : List Nat) : val (l ++ m) = val l + 2 ^ (8 * l.length) * val m := by
  induction l with
  | nil => simp [val]
  | cons x l ih =>
    show x + 256 * val (l ++ m) = x + 256 * val l + 2 ^ (8 * (l.length + 1)) * val m
    rw [ih, show 8 * (l.length + 1) = 8 * l.length + 8 from by omega, Nat.pow_add]
    grind

def ones : Nat := 4294967295
theorem ones_sub (s : Nat) (h : s < 2 ^ 32) : ones - s = s ^^^ ones := by
  have : (ones - s) ^^^ s = ones := by
    apply Nat.eq_of_testBit_eq
    intro i
    rw [Nat.testBit_xor]
    show ((2 ^ 32 - 1 - s).testBit i ^^ s.testBit i) = (2 ^ 32 - 1).testBit i
    rw [Nat.sub_sub, Nat.add_comm 1 s, Nat.testBit_two_pow_sub_succ h, Nat.testBit_two_pow_sub_one]
    by_cases hi : i < 32
    · simp [hi]
    · have : s.testBit i = false := Nat.testBit_lt_two_pow (Nat.lt_of_lt_of_le h (Nat.pow_le_pow_right (by omega) (by omega)))
      simp [hi, this]
  have h2 := congrArg (· ^^^ s) this
  simp only [Nat.xor_assoc, Nat.xor_self, Nat.xor_zero] at h2
  rw [h2, Nat.xor_comm]

/-- Update of a sum -/
def update (s : Nat) (l : List Nat) : Nat := upd (s ^^^ ones) l ^^^ ones
def sum (l : List Nat) : Nat := update 0 l

theorem upd_append (c : Nat) (l m : List Nat) : upd c (l ++ m) = upd (upd c l) m := by simp [upd]
theorem update_append (s : Nat) (l m : List Nat) : update s (l ++ m) = update (update s l) m := by
  unfold update; rw [upd_append, Nat.xor_assoc (upd _ l), Nat.xor_self, Nat.xor_zero]
theorem take_lt (c x : Nat) (hc : c < 2 ^ 32) (hx : x < 256) : take c x < 2 ^ 32 :=
  shN_lt _ _ (Nat.xor_lt_two_pow hc (by omega))
theorem upd_lt (c : Nat) (l : List Nat) (hc : c < 2 ^ 32) (hl : ∀ x ∈ l, x < 256) : upd c l < 2 ^ 32 := by
  induction l generalizing c with
  | nil => exact hc
  | cons x l ih => exact ih _ (take_lt _ _ hc (hl x (by simp))) (fun y hy => hl y (by simp [hy]))
theorem update_lt (s : Nat) (l : List Nat) (hc : s < 2 ^ 32) (hl : ∀ x ∈ l, x < 256) : update s l < 2 ^ 32 :=
  Nat.xor_lt_two_pow (upd_lt _ _ (Nat.xor_lt_two_pow hc (by decide)) hl) (by decide)
theorem sum_lt (l : List Nat) (hl : ∀ x ∈ l, x < 256) : sum l < 2 ^ 32 := update_lt _ _ (by decide) hl

/-- four bytes of a sum -/
def four (s : Nat) : List Nat := [s % 256, s / 256 % 256, s / 65536 % 256, s / 16777216]
theorem four_lt (s : Nat) (h : s < 2 ^ 32) : ∀ x ∈ four s, x < 256 := by
  intro x hx; simp [four] at hx; omega
theorem four_val (s : Nat) : val (four s) = s := by
  simp [four, val]; omega
theorem four_inj (s t : Nat) (e : four s = four t) : s = t := by
  rw [← four_val s, e, four_val]

theorem upd_four (c v : Nat) (hv : v < 2 ^ 32) : upd c (four v) = shN 32 (c ^^^ v) := by
  rw [upd_val _ _ (four_lt v hv), four_val]; rfl

/-- a text ends with its own sum just where its register comes to one number -/
theorem closed_iff (p q : List Nat) (hp : ∀ x ∈ p, x < 256) (hq : ∀ x ∈ q, x < 256) (hn : q.length = 4) :
    q = four (sum p) ↔ upd ones (p ++ q) = shN 32 ones := by
  have hs := sum_lt p hp
  have hvq := val_lt q hq
  rw [hn] at hvq
  have hc : upd ones p = sum p ^^^ ones := by
    unfold sum update; rw [Nat.zero_xor, Nat.xor_assoc, Nat.xor_self, Nat.xor_zero]
  have hu : upd ones (p ++ q) = shN 32 (sum p ^^^ ones ^^^ val q) := by
    rw [upd_append, upd_val _ q hq, hn, hc]
  rw [hu]
  constructor
  · intro e
    rw [e, four_val, Nat.xor_comm (sum p), Nat.xor_assoc, Nat.xor_self, Nat.xor_zero]
  · intro e
    have := shN_inj 32 _ _ (Nat.xor_lt_two_pow (Nat.xor_lt_two_pow hs (by decide)) hvq) (by decide) e
    have h2 : sum p ^^^ val q = 0 := by
      have h3 : ones ^^^ (sum p ^^^ val q) = ones ^^^ 0 := by
        rw [Nat.xor_zero, ← Nat.xor_assoc, Nat.xor_comm ones]; exact this
      exact xor_inj _ _ _ h3
    have h4 := xor_eq_zero _ _ h2
    exact val_inj _ _ hq (four_lt _ hs) (by rw [hn]; rfl) (by rw [four_val, h4])

/-- THE BURST -/
theorem burst (L at' P : Nat) (hP : P < 2 ^ 32) (hat : at' < 8 * L) (c v : Nat)
    (h : shN (8 * L) (c ^^^ (v ^^^ (2 ^ at' * (P % 2 ^ (8 * L - at'))))) = shN (8 * L) (c ^^^ v)) : P % 2 ^ (8 * L - at') = 0 := by
  rw [← Nat.xor_assoc, shN_xor _ (c ^^^ v)] at h
  have h2 : shN (8 * L) (2 ^ at' * (P % 2 ^ (8 * L - at'))) = 0 := by
    refine xor_inj (shN (8 * L) (c ^^^ v)) _ _ ?_
    rw [h, Nat.xor_zero]
  rw [show 8 * L = at' + (8 * L - at') from by omega, shN_add] at h2
  rw [show at' + (8 * L - at') - at' = 8 * L - at' from by omega, shN_pow] at h2
  exact shN_eq_zero _ _ (Nat.lt_of_le_of_lt (Nat.mod_le _ _) hP) h2
end Go.Proofs.YtnfkdgjgglnniaaDoor.Crcm
namespace Go.Proofs.YtnfkdgjgglnniaaDoor
open Go.ChangeShapes Go.WideShapes Go.ChangeAt Go.RowKit
def tabL : List Nat := [0, 498536548, 997073096, 651767980, 1994146192, 1802195444, 1303535960, 1342533948, 3988292384, 4027552580, 3604390888, 3412177804, 2607071920, 2262029012, 2685067896, 3183342108]
def tab (i : Nat) : Nat := tabL.getD i 0
/-- the table lies where the program's text lays it -/
def Tab (w : World) : Prop := 0 < w.heap.size ∧ ∀ i, i < 16 → w.cell? ⟨0, i, none⟩ = some (.int .u32 (tab i : Nat))
theorem Tab.keep {w w' : World} (h : Tab w) (hb : Below w.heap.size w w') : Tab w' :=
  ⟨Nat.lt_of_lt_of_le h.1 hb.size, fun i hi => (hb.cell (p := ⟨0, i, none⟩) h.1).trans (h.2 i hi)⟩
theorem Tab.drewN {w : World} (h : Tab w) (n : Nat) : Tab (w.drewN n) := ⟨by simpa using h.1, fun i hi => by simpa using h.2 i hi⟩
theorem tab_lt (i : Nat) : tab i < 4294967296 := by
  unfold tab
  rw [List.getD_eq_getElem?_getD]
  by_cases hi : i < tabL.length
  · rw [List.getElem?_eq_getElem hi]
    exact (by decide : ∀ x ∈ tabL, x < 4294967296) _ (List.getElem_mem hi)
  · rw [List.getElem?_eq_none (by omega)]; decide
theorem tab_shN : ∀ i : Fin 16, Crcm.shN 4 i.val = tab i.val := by decide
theorem half (x : Nat) : x / 16 ^^^ tab (x % 16) = Crcm.shN 4 x := by
  have h : Crcm.shN 4 (x % 16 + 2 ^ 4 * (x / 16)) = tab (x % 16) ^^^ x / 16 := by
    rw [Crcm.add_eq_xor 4 _ _ (by omega), Crcm.shN_xor, Crcm.shN_pow]
    rw [tab_shN ⟨x % 16, by omega⟩]
  rw [show x % 16 + 2 ^ 4 * (x / 16) = x from by omega] at h
  rw [h, Nat.xor_comm]
theorem xor_lt32 {a b : Nat} (ha : a < 4294967296) (hb : b < 4294967296) : a ^^^ b < 4294967296 := Nat.xor_lt_two_pow (n := 32) ha hb
set_option maxRecDepth 20000 in
set_option maxHeartbeats 400000 in
theorem take_any (r c : Nat) (w : World) (hr : r < 4294967296) (hc : c < 256) (ht : Tab w) :
    Calls Tryd.prog 69 #[.int .u32 r, .int .u8 c] w fun e w' => e = .returned (.int .u32 (Crcm.take r c : Nat)) ∧ w = w' := by
  have e1 : bits .xor .u32 (r : Int) (c : Int) = ((r ^^^ c : Nat) : Int) := u32_xor_nat r c hr (by omega)
  have hx : r ^^^ c < 4294967296 := xor_lt32 hr (by omega)
  have HT : Hid (Crcm.shN 8 (r ^^^ c) = Crcm.take r c) := rfl
  generalize r ^^^ c = x at *
  have e2 : bits .and .u32 (x : Int) 15 = ((x % 16 : Nat) : Int) := by
    have h := u32_and_nat x 15 hx (by omega)
    rw [nat_mask4] at h
    exact h
  have e3 : bits .xor .u32 ((x : Int) / 16) (tab (x % 16) : Nat) = ((Crcm.shN 4 x : Nat) : Int) := by
    have h := u32_xor_nat (x / 16) (tab (x % 16)) (by omega) (tab_lt _)
    rw [half, show ((x / 16 : Nat) : Int) = (x : Int) / 16 from by omega] at h
    exact h
  have hy : Crcm.shN 4 x < 4294967296 := Crcm.shN_lt 4 x hx
  have HT2 : Hid (Crcm.shN 8 x = Crcm.shN 4 (Crcm.shN 4 x)) := Crcm.shN_add 4 4 x
  have t1 := ht.2 (x % 16) (by omega)
  have hm1 : x % 16 < 16 := by omega
  generalize Crcm.shN 4 x = y at *
  have e4 : bits .and .u32 (y : Int) 15 = ((y % 16 : Nat) : Int) := by
    have h := u32_and_nat y 15 hy (by omega)
    rw [nat_mask4] at h
    exact h
  have e5 : bits .xor .u32 ((y : Int) / 16) (tab (y % 16) : Nat) = ((Crcm.shN 4 y : Nat) : Int) := by
    have h := u32_xor_nat (y / 16) (tab (y % 16)) (by omega) (tab_lt _)
    rw [half, show ((y / 16 : Nat) : Int) = (y : Int) / 16 from by omega] at h
    exact h
  have t2 := ht.2 (y % 16) (by omega)
  have hm2 : y % 16 < 16 := by omega
  generalize tab (x % 16) = tx at *
  generalize tab (y % 16) = ty at *
  clear ht
  go_enter Tryd.func69, Tryd.ntmps69
  go_wp2
  go_ret
  exact ⟨ret_int (by rw [← HT.out, HT2.out]), rfl⟩
theorem take_snoc_nat (l : List Nat) (k c : Nat) (h : k < l.length) (hc : c = l.getD k 0) : l.take (k + 1) = l.take k ++ [c] := by
  subst hc
  rw [List.take_succ_eq_append_getElem h, List.getD_eq_getElem?_getD, List.getElem?_eq_getElem h]; rfl
theorem upd_snoc (r : Nat) (l : List Nat) (c : Nat) : Crcm.upd r (l ++ [c]) = Crcm.take (Crcm.upd r l) c := by rw [Crcm.upd_append]; rfl
theorem mem_take_lt {w : World} {a : Option Addr} {l : List Nat} (h : Bytes w a l) (k : Nat) : ∀ x ∈ l.take k, x < 256 := fun x hx => h.mem x (List.mem_of_mem_take hx)
theorem not32 (s : Nat) (h : s < 4294967296) : bits .xor .u32 IntKind.u32.max (s : Int) = ((s ^^^ Crcm.ones : Nat) : Int) := by
  rw [show IntKind.u32.max = ((4294967295 : Nat) : Int) from rfl]
  have h1 := u32_xor_nat 4294967295 s (by omega) h
  rw [Nat.xor_comm] at h1
  exact h1
set_option maxRecDepth 20000 in
set_option maxHeartbeats 400000 in
theorem update_any (s : Nat) (l : List Nat) (a : Option Addr) (cap : Nat) (w : World) (hs : s < 4294967296) (hb : Bytes w a l) (hl : l.length ≤ maxLen) (ht : Tab w) :
    Calls Tryd.prog 61 #[.int .u32 s, .slice a l.length cap] w fun e w' => e = .returned (.int .u32 (Crcm.update s l : Nat)) ∧ w = w' := by
  unfold maxLen at hl
  have e0 := not32 s hs
  have hr0 : s ^^^ Crcm.ones < 4294967296 := xor_lt32 hs (by decide)
  have HTK : Hid (∀ k, ∀ x ∈ l.take k, x < 256) := fun k => mem_take_lt hb k
  have HTAB : Hid (Tab w) := ht
  have HU : Hid (Crcm.upd (s ^^^ Crcm.ones) l ^^^ Crcm.ones = Crcm.update s l) := rfl
  generalize s ^^^ Crcm.ones = r0 at *
  obtain ⟨hby, rfl | ⟨b, off, rfl, hlt, hcell⟩⟩ := hb
  · have e9 := not32 r0 hr0
    clear hby ht
    go_enter Tryd.func61, Tryd.ntmps61
    go_wp2
    refine wp_loop_rounds 1 ?_
    rw [rounds_succ]
    go_wp2
    go_ret
    exact ⟨ret_int (by rw [← HU.out]; rfl), rfl⟩
  · have HBY : Hid (∀ i, l.getD i 0 < 256) := hby
    have HCELL : Hid (∀ i, i < l.length → w.cell? ⟨b, off + i, none⟩ = some (.int .u8 (l.getD i 0 : Nat))) := hcell
    clear hby hcell ht
    go_enter Tryd.func61, Tryd.ntmps61
    go_wp2
    go_loop [5, 12] (fun vr vi => ∃ k r : Nat, k ≤ l.length ∧ vi = .int .i64 k ∧ vr = .int .u32 r ∧ r = Crcm.upd r0 (l.take k)) (fun _ vi => l.length - (intOf vi).toNat)
    case atStart => exact ⟨0, r0, Nat.zero_le _, rfl, rfl, rfl⟩
    case round =>
      obtain ⟨k, r, hk, rfl, rfl, hr⟩ := hrel
      have hrlt : r < 4294967296 := by rw [hr]; exact Crcm.upd_lt _ _ hr0 (HTK.out k)
      have HR : Hid (r = Crcm.upd r0 (l.take k)) := hr
      clear hr
      by_cases hkl : k < l.length
      · have hc := HCELL.out k hkl
        have hc256 := HBY.out k
        obtain ⟨c, hcE⟩ : ∃ c, c = l.getD k 0 := ⟨_, rfl⟩
        rw [← hcE] at hc hc256
        have HN : Hid (Crcm.take r c = Crcm.upd r0 (l.take (k + 1))) := by
          show _ = _
          rw [take_snoc_nat l k c hkl hcE, upd_snoc, HR.out]
        clear hcE HCELL HBY e0
        go_wp2_with (go_at_call 69; refine (take_any r c _ hrlt hc256 HTAB.out).mono ?_; rintro e w' ⟨rfl, rfl⟩)
        go_round
        case rel => exact ⟨k + 1, _, by omega, by go_num, rfl, HN.out⟩
        case measure => simp [intOf]; omega
      · have e9 := not32 r hrlt
        have HF : Hid (r ^^^ Crcm.ones = Crcm.update s l) := by
          show _ = _
          rw [← HU.out, HR.out, List.take_of_length_le (by omega)]
        clear e0 HCELL HBY
        go_wp2
        go_ret
        exact ⟨ret_int (by rw [← HF.out]), rfl⟩
theorem sum_any (l : List Nat) (n : Nat) (a : Option Addr) (cap : Nat) (w : World) (hn : l.length = n) (hb : Bytes w a l) (hl : l.length ≤ maxLen) (ht : Tab w) :
    Calls Tryd.prog 50 #[.slice a n cap] w fun e w' => e = .returned (.int .u32 (Crcm.sum l : Nat)) ∧ w = w' := by
  subst hn
  have HB : Hid (Bytes w a l) := hb
  have HT : Hid (Tab w) := ht
  have HU : Hid (Crcm.update 0 l = Crcm.sum l) := rfl
  clear hb ht
  go_enter Tryd.func50, Tryd.ntmps50
  go_wp2_with (go_at_call 61; refine (update_any 0 l _ _ _ (by omega) HB.out hl HT.out).mono ?_; rw [HU.out]; rintro e w' ⟨rfl, rfl⟩)
  go_ret
  exact ⟨rfl, rfl⟩
end Go.Proofs.YtnfkdgjgglnniaaDoor
