/- Plain facts on numbers, bytes and lists, with no program in them, and what the walks say of memory. -/
import Derived.WalkKit
import Derived.ProofKit
import Derived.OpenShut
import Derived.WalkSpells
import Derived.WalkLawsBesides
import Derived.Laws.BitsAllLaws
import Derived.Laws.MathBits
import Derived.Laws.ShiftsVarLaws
import Derived.Below
namespace Go.Proofs.YtblfmfanfpohbaaGreat
open Go.ChangeShapes Go.WideShapes Go.ChangeAt Go.RowKit
theorem ret_int {k : IntKind} {a b : Int} (h : a = b) : Ending.returned (.int k a) = .returned (.int k b) := by rw [h]
theorem ret_bool {a b : Bool} (h : a = b) : Ending.returned (.bool a) = .returned (.bool b) := by rw [h]
def zig (v : Int) : Int := if 0 ≤ v then 2 * v else -2 * v - 1
def zag (u : Int) : Int := if u % 2 = 0 then u / 2 else -(u / 2) - 1
theorem xor_ones (n s : Nat) (h : s < 2 ^ n) : s ^^^ (2 ^ n - 1) = 2 ^ n - 1 - s := by
  have h1 : (2 ^ n - 1 - s) ^^^ s = 2 ^ n - 1 := by
    apply Nat.eq_of_testBit_eq
    intro i
    rw [Nat.testBit_xor, Nat.sub_sub, Nat.add_comm 1 s, Nat.testBit_two_pow_sub_succ h, Nat.testBit_two_pow_sub_one]
    by_cases hi : i < n
    · simp [hi]
    · have : s.testBit i = false := Nat.testBit_lt_two_pow (Nat.lt_of_lt_of_le h (Nat.pow_le_pow_right (by omega) (by omega)))
      simp [hi, this]
  have h2 := congrArg (· ^^^ s) h1
  simp only [Nat.xor_assoc, Nat.xor_self, Nat.xor_zero] at h2
  rw [h2, Nat.xor_comm]
theorem zig_val (v : Int) (h0 : -9223372036854775808 ≤ v) (h1 : v ≤ 9223372036854775807) :
    bits BinOp.xor IntKind.u64 (IntKind.u64.wrap (IntKind.u64.wrap v * 2)) (IntKind.u64.wrap (v / 9223372036854775808)) = zig v := by
  simp only [IntKind.wrap_u64]
  rw [u64_xor _ _ (by omega) (by omega) (by omega) (by omega)]
  unfold zig
  by_cases h : 0 ≤ v
  · rw [if_pos h]
    rw [show v / 9223372036854775808 = 0 from by omega]
    rw [show (0 % 18446744073709551616 : Int).toNat = 0 from rfl, Nat.xor_zero]
    omega
  · rw [if_neg h]
    rw [show v / 9223372036854775808 = -1 from by omega]
    rw [show (-1 % 18446744073709551616 : Int).toNat = 2 ^ 64 - 1 from by decide, xor_ones 64 _ (by omega)]
    omega
theorem wrap_i64 (n : Int) : IntKind.i64.wrap n = (n + 9223372036854775808) % 18446744073709551616 - 9223372036854775808 := by
  simp [IntKind.wrap, IntKind.bits, IntKind.signed]
  omega
theorem i64_xor_raw (a b : Int) : bits .xor .i64 a b = IntKind.i64.wrap (((a % 18446744073709551616).toNat ^^^ (b % 18446744073709551616).toNat : Nat) : Int) := by
  show IntKind.i64.wrap ((BitVec.ofInt 64 a ^^^ BitVec.ofInt 64 b).toNat : Int) = _
  rw [BitVec.toNat_xor, BitVec.toNat_ofInt, BitVec.toNat_ofInt]
  rfl
theorem zag_val (u : Int) (h0 : 0 ≤ u) (h1 : u ≤ 18446744073709551615) :
    bits BinOp.xor IntKind.i64 (u / 2) (wrap64 (-wrap64 (bits BinOp.and IntKind.u64 u 1))) = zag u := by
  rw [u64_and u 1 h0 (by omega) (by omega) (by omega)]
  rw [show (1 : Int).toNat = 1 from rfl, nat_mask1, i64_xor_raw, wrap_i64]
  unfold zag
  by_cases h : u % 2 = 0
  · rw [if_pos h, show u.toNat % 2 = 0 from by omega]
    rw [show wrap64 (-wrap64 ((0 : Nat) : Int)) = 0 from by simp [wrap64]]
    rw [show (0 % (18446744073709551616 : Int)).toNat = 0 from by decide, Nat.xor_zero]
    omega
  · rw [if_neg h, show u.toNat % 2 = 1 from by omega]
    rw [show wrap64 (-wrap64 ((1 : Nat) : Int)) = -1 from by simp [wrap64]]
    rw [show (-1 % (18446744073709551616 : Int)).toNat = 2 ^ 64 - 1 from by decide, xor_ones 64 _ (by omega)]
    omega
def dec : Nat → Nat → List Nat → Nat × Nat × Nat
  | _, _, [] => (0, 0, 10)
  | i, u, c :: r =>
    if i = 9 ∧ 1 < c then (0, 0, 12)
    else if 128 ≤ c then dec (i + 1) (u + c % 128 * 128 ^ i) r
    else if c = 0 ∧ 0 < i then (0, 0, 11)
    else (u + c % 128 * 128 ^ i, i + 1, 0)
/-- the bytes l lie from address a on -/
def Bytes (w : World) (a : Option Addr) (l : List Nat) : Prop :=
  (∀ i, l.getD i 0 < 256) ∧ (l = [] ∨ ∃ b off, a = some ⟨b, off, none⟩ ∧ b < w.heap.size ∧ ∀ i, i < l.length → w.cell? ⟨b, off + i, none⟩ = some (.int .u8 (l.getD i 0 : Nat)))
theorem pow7 (k : Nat) : 2 ^ (7 * k) = 128 ^ k := by rw [Nat.pow_mul]
theorem or_step (u0 c k : Nat) (hu : u0 < 128 ^ k) (hc : c < 256) (hk : k ≤ 8 ∨ (k = 9 ∧ c ≤ 1)) :
    bits .or .u64 (u0 : Int) (IntKind.u64.wrap (IntKind.u64.wrap (bits .andNot .u8 (c : Int) 128) * 2 ^ (7 * k))) = ((u0 + c % 128 * 128 ^ k : Nat) : Int) ∧ u0 + c % 128 * 128 ^ k < 128 ^ (k + 1) ∧ u0 + c % 128 * 128 ^ k < 18446744073709551616 := by
  have h1 : bits .andNot .u8 (c : Int) 128 = ((c % 128 : Nat) : Int) := by
    have := u8_andNot_nat c 128 hc (by omega)
    rw [show (255 - 128 : Nat) = 127 from rfl, nat_mask7] at this
    exact this
  have h3 : c % 128 * 128 ^ k + 128 ^ k ≤ 128 ^ (k + 1) := by
    rw [Nat.pow_succ, ← Nat.succ_mul, Nat.mul_comm (128 ^ k)]
    exact Nat.mul_le_mul_right _ (by omega)
  have h4 : u0 + c % 128 * 128 ^ k < 18446744073709551616 := by
    rcases hk with hk | ⟨rfl, hc1⟩
    · have : 128 ^ (k + 1) ≤ 128 ^ 9 := Nat.pow_le_pow_right (by omega) (by omega)
      omega
    · rw [show (128 : Nat) ^ 9 = 9223372036854775808 from by decide] at hu ⊢
      omega
  refine ⟨?_, by omega, h4⟩
  rw [h1, show ((2 : Int) ^ (7 * k)) = ((2 ^ (7 * k) : Nat) : Int) from by simp, pow7]
  rw [IntKind.wrap_u64, IntKind.wrap_u64]
  rw [show ((c % 128 : Nat) : Int) % 18446744073709551616 = ((c % 128 : Nat) : Int) from by omega, ← Int.natCast_mul]
  rw [Int.emod_eq_of_lt (by omega) (by omega), u64_or_nat _ _ (by omega) (by omega), Nat.or_comm, nat_join (7 * k) _ _ (by rw [pow7]; exact Nat.mul_mod_left _ _) (by rw [pow7]; exact hu), Nat.add_comm]
theorem drop_at (l : List Nat) (k c : Nat) (h : k < l.length) (hc : c = l.getD k 0) : l.drop k = c :: l.drop (k + 1) := by
  subst hc
  rw [List.drop_eq_getElem_cons h, List.getD_eq_getElem?_getD, List.getElem?_eq_getElem h]; rfl
theorem dec_cons (i u c : Nat) (r : List Nat) : dec i u (c :: r) = if i = 9 ∧ 1 < c then (0, 0, 12) else if 128 ≤ c then dec (i + 1) (u + c % 128 * 128 ^ i) r else if c = 0 ∧ 0 < i then (0, 0, 11) else (u + c % 128 * 128 ^ i, i + 1, 0) := rfl
theorem ret3 {a b c a' b' c' : Int} {j k m : IntKind} (h1 : a = a') (h2 : b = b') (h3 : c = c') : Ending.returned (.tuple #[.int j a, .int k b, .int m c]) = .returned (.tuple #[.int j a', .int k b', .int m c']) := by rw [h1, h2, h3]
theorem len_close (b x i : Nat) (h : bitLen x = b + bitLen i) (hi : i < 256) (hb : b ≤ 56) : wrap64 ((b : Int) + wrap64 ((bitLen i : Nat) : Int)) = ((bitLen x : Nat) : Int) := by
  have := bitLen_le8 i hi
  rw [h]
  unfold wrap64
  omega
theorem len_close0 (x : Nat) (hi : x < 256) : wrap64 (wrap64 ((bitLen x : Nat) : Int)) = ((bitLen x : Nat) : Int) := by
  have := bitLen_le8 x hi
  unfold wrap64
  omega
def encF : Nat → Nat → List Nat
  | 0, _ => []
  | f + 1, u => if u < 128 then [u] else (128 + u % 128) :: encF f (u / 128)
def enc (u : Nat) : List Nat := encF 10 u
def B8 (l : List Nat) : List Value := l.map fun (n : Nat) => Value.int .u8 (n : Int)
theorem B8_append (l m : List Nat) : B8 (l ++ m) = B8 l ++ B8 m := by simp [B8]
theorem or_one (u : Nat) : u ||| 1 = 2 * (u / 2) + 1 := by
  have h := nat_join 1 (2 * (u / 2)) 1 (by omega) (by omega)
  apply Nat.eq_of_testBit_eq
  intro i
  rw [← h, Nat.testBit_or, Nat.testBit_or]
  cases i with
  | zero => simp
  | succ i => rw [Nat.testBit_succ, Nat.testBit_succ (2 * (u / 2)), show 2 * (u / 2) / 2 = u / 2 from by omega]
theorem bitLen_or (u : Nat) (h : 1 ≤ u) : bitLen (u ||| 1) = bitLen u := by
  rw [or_one]
  unfold bitLen
  rw [if_neg (by omega), if_neg (by omega), Nat.log2_def, Nat.log2_def (n := u)]
  by_cases h2 : 2 ≤ u
  · rw [if_pos (by omega), if_pos h2, show (2 * (u / 2) + 1) / 2 = u / 2 from by omega]
  · rw [if_neg (by omega), if_neg h2]
theorem bitLen_lt (u n : Nat) (h : u < 2 ^ n) : bitLen u ≤ n := by
  unfold bitLen
  split
  · omega
  · rename_i h0
    have := (Nat.log2_lt h0).2 h
    omega
theorem encF_length (f u : Nat) (h : u < 128 ^ (f + 1)) : (encF (f + 1) u).length = (bitLen (u ||| 1) + 6) / 7 := by
  induction f generalizing u with
  | zero =>
    have h1 : u < 128 := by simpa using h
    have h2 : bitLen (u ||| 1) ≤ 7 := bitLen_lt _ 7 (by rw [or_one]; omega)
    have h3 : 1 ≤ bitLen (u ||| 1) := by unfold bitLen; rw [if_neg (by rw [or_one]; omega)]; omega
    unfold encF
    rw [if_pos h1]
    simp only [List.length_cons, List.length_nil]
    omega
  | succ f ih =>
    unfold encF
    by_cases h1 : u < 128
    · have h2 : bitLen (u ||| 1) ≤ 7 := bitLen_lt _ 7 (by rw [or_one]; omega)
      have h3 : 1 ≤ bitLen (u ||| 1) := by unfold bitLen; rw [if_neg (by rw [or_one]; omega)]; omega
      rw [if_pos h1]
      simp only [List.length_cons, List.length_nil]
      omega
    · rw [if_neg h1, List.length_cons, ih (u / 128) (by rw [Nat.pow_succ] at h; exact Nat.div_lt_of_lt_mul (by rw [Nat.mul_comm]; exact h))]
      have e1 : (u ||| 1) / 2 ^ 7 = u / 128 := by rw [or_one]; omega
      have e2 := bitLen_shift (u ||| 1) 7 (by rw [e1]; omega)
      rw [e1] at e2
      rw [e2, bitLen_or (u / 128) (by omega)]
      omega
theorem lt_pow10 (u : Nat) (h : u ≤ 18446744073709551615) : u < 128 ^ 10 := by
  rw [show (128 : Nat) ^ 10 = 1180591620717411303424 from by decide]
  omega
theorem enc_length (u : Nat) (h : u ≤ 18446744073709551615) : (enc u).length = (bitLen (u ||| 1) + 6) / 7 := encF_length 9 u (lt_pow10 u h)
theorem enc_length_le (u : Nat) (h : u ≤ 18446744073709551615) : 1 ≤ (enc u).length ∧ (enc u).length ≤ 10 := by
  have h2 : bitLen (u ||| 1) ≤ 64 := bitLen_lt _ 64 (by rw [or_one]; omega)
  have h3 : 1 ≤ bitLen (u ||| 1) := by unfold bitLen; rw [if_neg (by rw [or_one]; omega)]; omega
  rw [enc_length u h]
  omega
theorem or128 (u : Nat) : bits .or .u8 (IntKind.u8.wrap (u : Int)) 128 = ((128 + u % 128 : Nat) : Int) := by
  rw [IntKind.wrap_u8']
  have h := u8_or_nat (u % 256) 128 (by omega) (by omega)
  rw [show ((u : Int) % 256) = ((u % 256 : Nat) : Int) from by omega]
  rw [show ((128 : Nat) : Int) = 128 from rfl] at h
  rw [h]
  have e : u % 256 ||| 128 = 128 + u % 128 := by
    have h2 := nat_join 7 128 (u % 128) (by omega) (by omega)
    rw [← h2]
    apply Nat.eq_of_testBit_eq
    intro i
    rw [Nat.testBit_or, Nat.testBit_or, show (256 : Nat) = 2 ^ 8 from rfl, show u % 128 = u % 2 ^ 7 from rfl, Nat.testBit_mod_two_pow, Nat.testBit_mod_two_pow, show (128 : Nat) = 2 ^ 7 from rfl, Nat.testBit_two_pow]
    by_cases hi : i < 7
    · have : i < 8 := by omega
      have h3 : ¬ (7 = i) := by omega
      simp [hi, this, h3]
    · by_cases h8 : i = 7
      · subst h8; simp
      · have : ¬ i < 8 := by omega
        simp [hi, this]
  rw [e]
theorem cell_new (w : World) (x : Value) (e : TypeId) : ∀ j u, [x][j]? = some u → (w.alloc (.cells #[x] e)).cell? ((⟨w.heap.size, 0, none⟩ : Addr).add j) = some u := by
  intro j u hj
  match j, hj with
  | 0, hj => simp at hj; subst hj; simp [Addr.add]
theorem one_new {k : IntKind} (n : Int) : ∀ u ∈ [Value.int k n], u.oneCell' = true := by
  intro u hu; simp at hu; subst hu; rfl
theorem grown_row {w wr w' : World} {base n : Nat} {v : Value} {e size : Nat} {xs : List Value} (h : Below base w wr) (ho : wr.ownsRow base e size v n xs) (hb : base ≤ wr.heap.size) (hg : wr.grownBy w' v.ownBlock) : Below base w w' :=
  h.grown hg hb fun k hk => (ho.lt k hk).1
/-- the value v is a row of the call's own that holds the bytes l -/
def Own (w : World) (base : Nat) (v : Value) (l : List Nat) : Prop := (∀ i, l.getD i 0 < 256) ∧ w.ownsRow base 5 1 v l.length (B8 l)
theorem Bytes.keep {w w' : World} {a : Option Addr} {l : List Nat} (h : Bytes w a l) (hb : Below w.heap.size w w') : Bytes w' a l := by
  refine ⟨h.1, ?_⟩
  rcases h.2 with h | ⟨b, off, rfl, hlt, hc⟩
  · exact .inl h
  · exact .inr ⟨b, off, rfl, Nat.lt_of_lt_of_le hlt hb.size, fun i hi => (hb.cell (p := ⟨b, off + i, none⟩) hlt).trans (hc i hi)⟩
theorem Bytes.drewN {w : World} {a : Option Addr} {l : List Nat} (h : Bytes w a l) (n : Nat) : Bytes (w.drewN n) a l := by
  refine ⟨h.1, ?_⟩
  rcases h.2 with h | ⟨b, off, rfl, hlt, hc⟩
  · exact .inl h
  · exact .inr ⟨b, off, rfl, by simpa using hlt, fun i hi => by simpa using hc i hi⟩
theorem B8_get (l : List Nat) (i : Nat) (h : i < l.length) : (B8 l)[i]? = some (.int .u8 (l.getD i 0 : Nat)) := by
  simp [B8, h]
theorem Own.shape {w : World} {base : Nat} {v : Value} {l : List Nat} (h : Own w base v l) :
    ∃ a cap, v = .slice a l.length cap ∧ l.length ≤ cap ∧ cap ≤ maxLen ∧ Bytes w a l ∧ ((a = none ∧ l = [] ∧ cap = 0) ∨ ∃ g, a = some ⟨g, 0, none⟩ ∧ base ≤ g ∧ g < w.heap.size) := by
  obtain ⟨h0, h1, h2⟩ := h
  rcases h2 with ⟨rfl, hn⟩ | ⟨g, cap, cur, rfl, hb, hg, hnc, hcm, hcs, htake⟩
  · have : l = [] := List.length_eq_zero_iff.1 hn
    subst this
    exact ⟨none, 0, rfl, Nat.le_refl _, by simp, ⟨h0, .inl rfl⟩, .inl ⟨rfl, rfl, rfl⟩⟩
  · have hlt : g < w.heap.size := by
      by_cases hh : g < w.heap.size
      · exact hh
      · rw [Array.getElem?_eq_none (by omega)] at hg; cases hg
    have ho : w.ownsRow base 5 1 (.slice (some ⟨g, 0, none⟩) l.length cap) l.length (B8 l) := ⟨h1, .inr ⟨g, cap, cur, rfl, hb, hg, hnc, hcm, hcs, htake⟩⟩
    refine ⟨some ⟨g, 0, none⟩, cap, rfl, hnc, hcm, ⟨h0, .inr ⟨g, 0, rfl, hlt, fun i hi => ?_⟩⟩, .inr ⟨g, rfl, hb, hlt⟩⟩
    rw [Nat.zero_add, ho.cellAt i (by omega), B8_get l i hi]
theorem bytes_lit (w : World) (l : List Nat) (h : ∀ i, l.getD i 0 < 256) : Bytes (w.alloc (.cells (B8 l).toArray 5)) (some ⟨w.heap.size, 0, none⟩) l := by
  refine ⟨h, .inr ⟨w.heap.size, 0, rfl, by simp, fun i hi => ?_⟩⟩
  rw [Nat.zero_add]
  have hc := cell_of_row (w.alloc (.cells (B8 l).toArray 5)) w.heap.size i (B8 l).toArray 5 (0, 0) (heap_alloc_new w _)
  rw [hc]
  simpa using B8_get l i hi
theorem bytes_lit_mark (w : World) (l : List Nat) (m : Nat × Nat) (h : ∀ i, l.getD i 0 < 256) : Bytes (w.alloc (.cells (B8 l).toArray 5 m)) (some ⟨w.heap.size, 0, none⟩) l := by
  refine ⟨h, .inr ⟨w.heap.size, 0, rfl, by simp, fun i hi => ?_⟩⟩
  rw [Nat.zero_add]
  have hc := cell_of_row (w.alloc (.cells (B8 l).toArray 5 m)) w.heap.size i (B8 l).toArray 5 m (heap_alloc_new w _)
  rw [hc]
  simpa using B8_get l i hi
theorem Bytes.nonempty {w : World} {a : Option Addr} {l : List Nat} (h : Bytes w a l) (hl : l ≠ []) :
    ∃ b off, a = some ⟨b, off, none⟩ ∧ b < w.heap.size ∧ ∀ i, i < l.length → w.cell? ⟨b, off + i, none⟩ = some (.int .u8 (l.getD i 0 : Nat)) := by
  rcases h.2 with h | h
  · exact absurd h hl
  · exact h
theorem row_nats (k : IntKind) (M : Nat) (h0 : 0 < M) (hM : ∀ n : Int, (Lit.int k n).wf = true → 0 ≤ n ∧ n.toNat < M) (w : World) (x : Addr) (zs : List Int) (len : Nat) (hl : len ≤ zs.length)
    (hc : ∀ i, i < zs.length → w.cell? (x.add i) = some (.int k (zs.getD i 0))) (hw : ∀ n ∈ zs, (Lit.int k n).wf = true) :
    ∃ l : List Nat, l.length = len ∧ (∀ i, l.getD i 0 < M) ∧ (l = [] ∨ ∃ b off, some x = some (⟨b, off, none⟩ : Addr) ∧ b < w.heap.size ∧ ∀ i, i < l.length → w.cell? ⟨b, off + i, none⟩ = some (.int k (l.getD i 0 : Nat))) := by
  refine ⟨(zs.take len).map Int.toNat, by simp; omega, fun i => ?_, ?_⟩
  · rw [List.getD_eq_getElem?_getD, List.getElem?_map]
    by_cases hi : i < (zs.take len).length
    · rw [List.getElem?_eq_getElem hi]
      exact (hM _ (hw _ (List.mem_of_mem_take (List.getElem_mem hi)))).2
    · rw [List.getElem?_eq_none (by omega)]; exact h0
  · by_cases hz : len = 0
    · left; subst hz; simp
    · right
      obtain ⟨b, off, spot⟩ := x
      have hc0 := hc 0 (by omega)
      have hspot : spot = none := by simpa [Addr.add] using World.cell?_spot hc0
      subst hspot
      refine ⟨b, off, rfl, World.block_lt_of_cell? _ _ hc0, fun i hi => ?_⟩
      have hi2 : i < zs.length := by simp at hi; omega
      have hi3 : i < len := by simp at hi; omega
      have := hc i hi2
      have hnn := (hM _ (hw _ (List.getElem_mem hi2))).1
      rw [show (⟨b, off, none⟩ : Addr).add i = ⟨b, off + i, none⟩ from by simp [Addr.add]] at this
      rw [this]
      simp [List.getD_eq_getElem?_getD, hi2, hi3]
      omega
theorem wf_u8 (n : Int) (h : (Lit.int .u8 n).wf = true) : 0 ≤ n ∧ n.toNat < 256 := by
  have : 0 ≤ n ∧ n ≤ 255 := by simpa [Lit.wf, IntKind.min, IntKind.max, IntKind.signed, IntKind.bits] using h
  omega
theorem wf_u64 (n : Int) (h : (Lit.int .u64 n).wf = true) : 0 ≤ n ∧ n.toNat < 18446744073709551616 := by
  have : 0 ≤ n ∧ n ≤ 18446744073709551615 := by simpa [Lit.wf, IntKind.min, IntKind.max, IntKind.signed, IntKind.bits] using h
  omega
/-- the numbers l lie from address a on -/
def Nums (w : World) (a : Option Addr) (l : List Nat) : Prop :=
  (∀ i, l.getD i 0 < 18446744073709551616) ∧ (l = [] ∨ ∃ b off, a = some ⟨b, off, none⟩ ∧ b < w.heap.size ∧ ∀ i, i < l.length → w.cell? ⟨b, off + i, none⟩ = some (.int .u64 (l.getD i 0 : Nat)))
theorem Nums.keep {w w' : World} {a : Option Addr} {l : List Nat} (h : Nums w a l) (hb : Below w.heap.size w w') : Nums w' a l := by
  refine ⟨h.1, ?_⟩
  rcases h.2 with h | ⟨b, off, rfl, hlt, hc⟩
  · exact .inl h
  · exact .inr ⟨b, off, rfl, Nat.lt_of_lt_of_le hlt hb.size, fun i hi => (hb.cell (p := ⟨b, off + i, none⟩) hlt).trans (hc i hi)⟩
/-- a slice that came in: its length, its room, what its numbers are -/
structure Came (w : World) (a : Option Addr) (len cap bytes : Nat) : Prop where
  fits : len ≤ cap
  room : cap * bytes ≤ 140737488351232
  none : a = none → cap = 0
theorem Bytes.take {w : World} {a : Option Addr} {l : List Nat} (h : Bytes w a l) (n : Nat) : Bytes w a (l.take n) := by
  refine ⟨fun i => ?_, ?_⟩
  · have := h.1 i
    rw [List.getD_eq_getElem?_getD, List.getElem?_take]
    split
    · rwa [← List.getD_eq_getElem?_getD]
    · simp
  · rcases h.2 with rfl | ⟨b, off, rfl, hlt, hc⟩
    · left; simp
    · refine .inr ⟨b, off, rfl, hlt, fun i hi => ?_⟩
      rw [List.length_take] at hi
      rw [hc i (by omega), List.getD_eq_getElem?_getD, List.getD_eq_getElem?_getD, List.getElem?_take, if_pos (by omega)]
theorem Bytes.mem {w : World} {a : Option Addr} {l : List Nat} (h : Bytes w a l) : ∀ x ∈ l, x < 256 := by
  intro x hx
  obtain ⟨i, hi, rfl⟩ := List.mem_iff_getElem.1 hx
  have := h.1 i
  rwa [List.getD_eq_getElem?_getD, List.getElem?_eq_getElem hi] at this
theorem bytes_cells {w : World} {x : Addr} {m : List Nat} (h : Bytes w (some x) m) : ∀ j u, (B8 m)[j]? = some u → w.cell? (x.add j) = some u := by
  intro j u hj
  have hlt : j < m.length := by
    by_cases hh : j < m.length
    · exact hh
    · rw [List.getElem?_eq_none (by simp [B8]; omega)] at hj; cases hj
  rw [B8_get m j hlt] at hj
  rcases h.2 with rfl | ⟨b, off, hx, _, hc⟩
  · simp at hlt
  · cases hx
    rw [← hj, show (⟨b, off, none⟩ : Addr).add j = ⟨b, off + j, none⟩ from by simp [Addr.add]]
    exact hc j hlt
theorem B8_one (m : List Nat) : ∀ u ∈ B8 m, u.oneCell' = true := by
  intro u hu
  simp only [B8, List.mem_map] at hu
  obtain ⟨n, _, rfl⟩ := hu
  rfl
theorem B8_length (m : List Nat) : (B8 m).length = m.length * 1 := by simp [B8]
theorem Own.append {w : World} {base : Nat} {v : Value} {l m : List Nat} (hl : ∀ i, l.getD i 0 < 256) (hm : ∀ i, m.getD i 0 < 256) (h : w.ownsRow base 5 1 v (l.length + m.length) (B8 l ++ B8 m)) : Own w base v (l ++ m) := by
  refine ⟨fun i => ?_, by rw [List.length_append, B8_append]; exact h⟩
  have h1 := hl i
  have h2 := hm (i - l.length)
  rw [List.getD_eq_getElem?_getD] at h1 h2 ⊢
  rw [List.getElem?_append]
  split <;> assumption
theorem Own.slice {w : World} {base : Nat} {v : Value} {l : List Nat} (h : Own w base v l) : ∃ a cap, v = .slice a l.length cap ∧ Bytes w a l := by
  obtain ⟨a, cap, h1, _, _, h2, _⟩ := h.shape
  exact ⟨a, cap, h1, h2⟩
theorem Own.row {w : World} {base : Nat} {v : Value} {l : List Nat} (h : Own w base v l) (hl : l ≠ []) : ∃ g cap, v = .slice (some ⟨g, 0, none⟩) l.length cap ∧ l.length ≤ cap ∧ Bytes w (some ⟨g, 0, none⟩) l := by
  obtain ⟨a, cap, h1, h2, _, h3, h4⟩ := h.shape
  rcases h4 with ⟨_, h5, _⟩ | ⟨g, rfl, _, _⟩
  · exact absurd h5 hl
  · exact ⟨g, cap, h1, h2, h3⟩
theorem Bytes.drop {w : World} {b off : Nat} {l : List Nat} (h : Bytes w (some ⟨b, off, none⟩) l) (n : Nat) : Bytes w (some ⟨b, off + n, none⟩) (l.drop n) := by
  refine ⟨fun i => ?_, ?_⟩
  · have := h.1 (n + i)
    rw [List.getD_eq_getElem?_getD] at this ⊢
    rw [List.getElem?_drop]
    exact this
  · rcases h.2 with rfl | ⟨b', off', hx, hlt, hc⟩
    · left; simp
    · cases hx
      refine .inr ⟨b, off + n, rfl, hlt, fun i hi => ?_⟩
      rw [List.length_drop] at hi
      have := hc (n + i) (by omega)
      rw [show off + n + i = off + (n + i) from by omega, this, List.getD_eq_getElem?_getD, List.getD_eq_getElem?_getD, List.getElem?_drop]
theorem Bytes.none (w : World) (a : Option Addr) : Bytes w a [] := ⟨by simp, .inl rfl⟩
theorem enc_lt (f u : Nat) (h : u < 128 ^ (f + 1)) : ∀ x ∈ encF (f + 1) u, x < 256 := by
  induction f generalizing u with
  | zero => intro x hx; unfold encF at hx; rw [if_pos (by simpa using h)] at hx; simp at hx; simp at h; omega
  | succ f ih =>
    intro x hx
    unfold encF at hx
    split at hx
    · simp at hx; omega
    · rcases List.mem_cons.1 hx with rfl | hx
      · omega
      · exact ih (u / 128) (by rw [Nat.pow_succ] at h; exact Nat.div_lt_of_lt_mul (by rw [Nat.mul_comm]; exact h)) x hx
theorem getD_lt {l : List Nat} (h : ∀ x ∈ l, x < 256) (i : Nat) : l.getD i 0 < 256 := by
  rw [List.getD_eq_getElem?_getD]
  by_cases hi : i < l.length
  · rw [List.getElem?_eq_getElem hi]; exact h _ (List.getElem_mem hi)
  · rw [List.getElem?_eq_none (by omega)]; simp
theorem enc_byte (u : Nat) (h : u ≤ 18446744073709551615) (i : Nat) : (enc u).getD i 0 < 256 := getD_lt (enc_lt 9 u (lt_pow10 u h)) i
end Go.Proofs.YtblfmfanfpohbaaGreat
