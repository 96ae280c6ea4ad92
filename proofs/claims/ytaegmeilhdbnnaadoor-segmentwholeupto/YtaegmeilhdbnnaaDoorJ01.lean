/- Own texts, joined: Vmath, Four, Closed, Frm. -/
import Derived.Test.YtaegmeilhdbnnaaDoorJ00
import Derived.Deep.QuietTactic
import Derived.BigQuiet
import Derived.Deep.RegionHeld
import Derived.Laws.Cover3
import Derived.ChangeKeysEq
namespace Go.Proofs.YtaegmeilhdbnnaaDoor
open Go.ChangeShapes Go.WideShapes Go.ChangeAt Go.RowKit
def val7 : List Nat → Nat
  | [] => 0
  | c :: r => c % 128 + 128 * val7 r
theorem dec_zero (i u : Nat) (l : List Nat) (h : (dec i u l).2.2 ≠ 0) : (dec i u l).1 = 0 ∧ (dec i u l).2.1 = 0 := by
  induction l generalizing i u with
  | nil => exact ⟨rfl, rfl⟩
  | cons c r ih =>
    rw [dec_cons] at h ⊢
    split
    · exact ⟨rfl, rfl⟩
    · rename_i h1
      rw [if_neg h1] at h
      split
      · rename_i h2
        rw [if_pos h2] at h
        exact ih _ _ h
      · rename_i h2
        rw [if_neg h2] at h
        split
        · exact ⟨rfl, rfl⟩
        · rename_i h3
          rw [if_neg h3] at h
          exact absurd rfl h
theorem dec_ok (l : List Nat) (hl : ∀ x ∈ l, x < 256) (i u v n : Nat) (hi : i ≤ 9) (hu : u < 128 ^ i) (h : dec i u l = (v, n, 0)) :
    i < n ∧ n - i ≤ l.length ∧ n ≤ 10 ∧ v = u + 128 ^ i * val7 (l.take (n - i)) ∧ v < 18446744073709551616 ∧ (0 < i → val7 (l.take (n - i)) ≠ 0) ∧ encF (10 - i) (val7 (l.take (n - i))) = l.take (n - i) := by
  induction l generalizing i u with
  | nil => simp [dec] at h
  | cons c r ih =>
    have hc : c < 256 := hl c (by simp)
    rw [dec_cons] at h
    split at h
    · simp at h
    · rename_i h1
      have hk : i ≤ 8 ∨ (i = 9 ∧ c ≤ 1) := by omega
      have ho := or_step u c i hu hc hk
      split at h
      · rename_i h2
        have hi8 : i ≤ 8 := by omega
        obtain ⟨g1, g2, g3, g4, g5, g6, g7⟩ := ih (fun x hx => hl x (by simp [hx])) (i + 1) _ (by omega) ho.2.1 h
        have e : n - i = (n - (i + 1)) + 1 := by omega
        rw [e, List.take_succ_cons]
        refine ⟨by omega, by simp; omega, g3, ?_, g5, fun _ => ?_, ?_⟩
        · rw [g4]
          simp only [val7]
          rw [Nat.pow_succ]
          grind
        · have := g6 (by omega)
          simp only [val7]
          omega
        · have h6 := g6 (by omega)
          rw [show 10 - i = (10 - (i + 1)) + 1 from by omega]
          simp only [val7]
          unfold encF
          rw [if_neg (by omega)]
          rw [show (c % 128 + 128 * val7 (List.take (n - (i + 1)) r)) % 128 = c % 128 from by omega, show (c % 128 + 128 * val7 (List.take (n - (i + 1)) r)) / 128 = val7 (List.take (n - (i + 1)) r) from by omega, g7]
          rw [show 128 + c % 128 = c from by omega]
      · rename_i h2
        split at h
        · simp at h
        · rename_i h3
          simp only [Prod.mk.injEq, and_true] at h
          obtain ⟨rfl, rfl⟩ := h
          rw [show i + 1 - i = 1 from by omega, List.take_succ_cons, List.take_zero]
          have hm : c % 128 = c := by omega
          refine ⟨by omega, by simp, by omega, ?_, ho.2.2, fun h0 => ?_, ?_⟩
          · simp only [val7]; rw [hm, Nat.mul_zero, Nat.add_zero, Nat.mul_comm]
          · simp only [val7]; omega
          · simp only [val7]
            rw [show 10 - i = (9 - i) + 1 from by omega]
            unfold encF
            rw [if_pos (by omega), hm, Nat.mul_zero, Nat.add_zero]
/-- what is read is what would be written -/
theorem vdec_form (l : List Nat) (hl : ∀ x ∈ l, x < 256) (h : (dec 0 0 l).2.2 = 0) :
    1 ≤ (dec 0 0 l).2.1 ∧ (dec 0 0 l).2.1 ≤ l.length ∧ (dec 0 0 l).2.1 ≤ 10 ∧ (dec 0 0 l).1 ≤ 18446744073709551615 ∧ enc (dec 0 0 l).1 = l.take (dec 0 0 l).2.1 := by
  have := dec_ok l hl 0 0 (dec 0 0 l).1 (dec 0 0 l).2.1 (by omega) (by simp) (Prod.ext rfl (Prod.ext rfl h))
  obtain ⟨g1, g2, g3, g4, g5, _, g7⟩ := this
  rw [Nat.zero_add, Nat.pow_zero, Nat.one_mul, Nat.sub_zero] at g4
  rw [Nat.sub_zero] at g2 g7
  refine ⟨g1, g2, g3, by omega, ?_⟩
  unfold enc
  conv => lhs; rw [g4]
  exact g7
theorem pow_step (s x i : Nat) : s + x % 128 * 128 ^ i + x / 128 * 128 ^ (i + 1) = s + x * 128 ^ i := by
  have h : x * 128 ^ i = (128 * (x / 128) + x % 128) * 128 ^ i := by rw [Nat.div_add_mod]
  rw [h, Nat.pow_succ]
  grind
theorem top_byte (s x : Nat) (h : s + x * 128 ^ 9 < 18446744073709551616) : x < 2 := by
  rw [show (128 : Nat) ^ 9 = 9223372036854775808 from by decide] at h
  omega
theorem dec_enc (f i s x : Nat) (r : List Nat) (hf : f + i = 9) (hs : s < 128 ^ i) (hx : s + x * 128 ^ i < 18446744073709551616) (h0 : 0 < i → x ≠ 0) :
    dec i s (encF (f + 1) x ++ r) = (s + x * 128 ^ i, i + (encF (f + 1) x).length, 0) := by
  induction f generalizing i s x with
  | zero =>
    obtain rfl : i = 9 := by omega
    have h2 := top_byte s x hx
    unfold encF
    rw [if_pos (by omega)]
    have h3 := h0 (by omega)
    obtain rfl : x = 1 := by omega
    rw [List.singleton_append, dec_cons, if_neg (by omega), if_neg (by omega), if_neg (by omega)]
    rfl
  | succ f ih =>
    unfold encF
    by_cases hlt : x < 128
    · rw [if_pos hlt, List.singleton_append, dec_cons, if_neg (by omega), if_neg (by omega), if_neg (by rintro ⟨rfl, hi⟩; exact h0 hi rfl), Nat.mod_eq_of_lt hlt]
      rfl
    · rw [if_neg hlt, List.cons_append, dec_cons, if_neg (by omega), if_pos (by omega)]
      rw [show (128 + x % 128) % 128 = x % 128 from by omega]
      have hp := pow_step s x i
      have hlt2 : s + x % 128 * 128 ^ i < 128 ^ (i + 1) := by
        have h3 : x % 128 * 128 ^ i + 128 ^ i ≤ 128 ^ (i + 1) := by
          rw [Nat.pow_succ, ← Nat.succ_mul, Nat.mul_comm (128 ^ i)]
          exact Nat.mul_le_mul_right _ (by omega)
        omega
      rw [ih (i + 1) _ (x / 128) (by omega) hlt2 (by rw [hp]; exact hx) (fun _ => by omega), hp]
      simp only [List.length_cons]
      rw [show i + 1 + (encF (f + 1) (x / 128)).length = i + ((encF (f + 1) (x / 128)).length + 1) from by omega]
theorem dec_back (u : Nat) (r : List Nat) (h : u ≤ 18446744073709551615) : dec 0 0 (enc u ++ r) = (u, (enc u).length, 0) := by
  have := dec_enc 9 0 0 u r rfl (by simp) (by rw [Nat.pow_zero]; omega) (fun h => by omega)
  rw [Nat.zero_add, Nat.pow_zero, Nat.mul_one, Nat.zero_add] at this
  exact this
theorem vdec_short (f i s x j : Nat) (hf : f + i = 9) (hx : x < 128 ^ (f + 1)) (hj : j < (encF (f + 1) x).length) : dec i s ((encF (f + 1) x).take j) = (0, 0, 10) := by
  induction f generalizing i s x j with
  | zero =>
    unfold encF at hj ⊢
    rw [if_pos (by simpa using hx)] at hj ⊢
    obtain rfl : j = 0 := by simp at hj; omega
    rfl
  | succ f ih =>
    unfold encF at hj ⊢
    by_cases hlt : x < 128
    · rw [if_pos hlt] at hj ⊢
      obtain rfl : j = 0 := by simp at hj; omega
      rfl
    · rw [if_neg hlt] at hj ⊢
      cases j with
      | zero => rfl
      | succ j =>
        rw [List.take_succ_cons, dec_cons, if_neg (by omega), if_pos (by omega)]
        exact ih (i + 1) _ (x / 128) j (by omega) (by rw [Nat.pow_succ] at hx; exact Nat.div_lt_of_lt_mul (by rw [Nat.mul_comm]; exact hx)) (by simpa using hj)
theorem dec_cut (u j : Nat) (h : u ≤ 18446744073709551615) (hj : j < (enc u).length) : dec 0 0 ((enc u).take j) = (0, 0, 10) :=
  vdec_short 9 0 0 u j rfl (lt_pow10 u h) hj
end Go.Proofs.YtaegmeilhdbnnaaDoor
namespace Go.Proofs.YtaegmeilhdbnnaaDoor
open Go.ChangeShapes Go.WideShapes Go.ChangeAt Go.RowKit
def V4 (s : Nat) : Array Value := #[.int .u8 ((s : Int) % 256), .int .u8 ((s : Int) / 256 % 256), .int .u8 ((s : Int) / 65536 % 256), .int .u8 ((s : Int) / 16777216)]
theorem V4_four (s : Nat) : V4 s = (B8 (Crcm.four s)).toArray := by
  unfold V4 B8 Crcm.four
  simp
theorem four_byte (s : Nat) (hs : s < 4294967296) (i : Nat) : (Crcm.four s).getD i 0 < 256 := getD_lt (Crcm.four_lt s hs) i
theorem bytes_any (w : World) (l : List Nat) (e : TypeId) (h : ∀ i, l.getD i 0 < 256) : Bytes (w.alloc (.cells (B8 l).toArray e)) (some ⟨w.heap.size, 0, none⟩) l := by
  refine ⟨h, .inr ⟨w.heap.size, 0, rfl, by simp, fun i hi => ?_⟩⟩
  rw [Nat.zero_add]
  have hc := cell_of_row (w.alloc (.cells (B8 l).toArray e)) w.heap.size i (B8 l).toArray e (0, 0) (heap_alloc_new w _)
  rw [hc]
  simpa using B8_get l i hi
set_option maxRecDepth 20000 in
set_option maxHeartbeats 400000 in
theorem laid_any (s : Nat) (w : World) (hs : s < 4294967296) :
    Calls Tryd.prog 83 #[.int .u32 s] w fun e w' => e = .returned (.agg #[.int .u8 ((s : Int) % 256), .int .u8 ((s : Int) / 256 % 256), .int .u8 ((s : Int) / 65536 % 256), .int .u8 ((s : Int) / 16777216)]) ∧ Below w.heap.size w w' := by
  go_enter Tryd.func83, Tryd.ntmps83
  go_wp2
  exact bodyPost_ret (v := .agg #[.int .u8 ((s : Int) % 256), .int .u8 ((s : Int) / 256 % 256), .int .u8 ((s : Int) / 65536 % 256), .int .u8 ((s : Int) / 16777216)]) (by simp [results, Tryd.results83, go_sem]) rfl ⟨rfl, (Below.refl _ _).alloc (Nat.le_refl _) _⟩
set_option maxRecDepth 20000 in
set_option maxHeartbeats 400000 in
theorem rfour_any (s : Nat) (w : World) (hs : s < 4294967296) :
    Calls Tryd.prog 55 #[.int .u32 s] w fun e w' => ∃ g, e = .returned (.slice (some ⟨g, 0, none⟩) 4 4) ∧ Bytes w' (some ⟨g, 0, none⟩) (Crcm.four s) ∧ Below w.heap.size w w' := by
  have HB : Hid (Bytes (w.alloc (.cells (V4 s) 5)) (some ⟨w.heap.size, 0, none⟩) (Crcm.four s)) := by
    have h := bytes_any w (Crcm.four s) 5 (four_byte s hs)
    rw [← V4_four] at h
    exact h
  go_enter Tryd.func55, Tryd.ntmps55
  go_wp2
  go_ret
  exact ⟨w.heap.size, rfl, HB.out, (Below.refl _ _).alloc (Nat.le_refl _) _⟩
set_option maxRecDepth 20000 in
set_option maxHeartbeats 400000 in
theorem four_any (s : Nat) (w : World) (hs : s < 4294967296) :
    Calls Tryd.prog 61 #[.int .u32 s] w fun e w' => ∃ g, e = .returned (.slice (some ⟨g, 0, none⟩) 4 4) ∧ Bytes w' (some ⟨g, 0, none⟩) (Crcm.four s) ∧ Below w.heap.size w w' := by
  go_enter Tryd.func61, Tryd.ntmps61
  go_wp2_with (go_at_call 83; refine (laid_any s _ hs).mono ?_; rintro e w1 ⟨rfl, hb1⟩)
  go_ret
  refine ⟨w1.heap.size, rfl, ?_, hb1.alloc hb1.size _⟩
  have h := bytes_any w1 (Crcm.four s) 136 (four_byte s hs)
  rw [← V4_four] at h
  exact h
end Go.Proofs.YtaegmeilhdbnnaaDoor
namespace Go.Proofs.YtaegmeilhdbnnaaDoor
open Go.ChangeShapes Go.WideShapes Go.ChangeAt Go.RowKit
def closedB (l : List Nat) : Bool := decide (4 ≤ l.length ∧ l.drop (l.length - 4) = Crcm.four (Crcm.sum (l.take (l.length - 4))))
theorem Tryd.info5q : ∃ i, Tryd.prog.info? 5 = some i := by
  obtain ⟨i0, hi, _⟩ := info_parts (show (Tryd.prog.info? 5).map (fun i => (i.zero, i.size, i.bytes)) = some (some (.int .u8 0), 1, 1) by kernel_rfl)
  exact ⟨i0, hi⟩
theorem part4_0 (W : World) (a0 a1 a2 a3 : Int) : (part 5 #[.int .u8 a0, .int .u8 a1, .int .u8 a2, .int .u8 a3] 0).run Tryd.prog W = .ok (.int .u8 a0) W := by kernel_rfl
theorem part4_1 (W : World) (a0 a1 a2 a3 : Int) : (part 5 #[.int .u8 a0, .int .u8 a1, .int .u8 a2, .int .u8 a3] 1).run Tryd.prog W = .ok (.int .u8 a1) W := by kernel_rfl
theorem part4_2 (W : World) (a0 a1 a2 a3 : Int) : (part 5 #[.int .u8 a0, .int .u8 a1, .int .u8 a2, .int .u8 a3] 2).run Tryd.prog W = .ok (.int .u8 a2) W := by kernel_rfl
theorem part4_3 (W : World) (a0 a1 a2 a3 : Int) : (part 5 #[.int .u8 a0, .int .u8 a1, .int .u8 a2, .int .u8 a3] 3).run Tryd.prog W = .ok (.int .u8 a3) W := by kernel_rfl
theorem eq4 (W : World) (a0 a1 a2 a3 b0 b1 b2 b3 : Int) :
    (Op.equalIn 10000 136 (.agg #[.int .u8 a0, .int .u8 a1, .int .u8 a2, .int .u8 a3]) (.agg #[.int .u8 b0, .int .u8 b1, .int .u8 b2, .int .u8 b3])).run Tryd.prog W = .ok ((a0 == b0) && ((a1 == b1) && ((a2 == b2) && (a3 == b3)))) W := by
  obtain ⟨i, hi⟩ := Tryd.info5q
  rw [run_equalIn_array W 9999 _ _ Tryd.underlying136 hi, show Tryd.prog.cellsOf 5 = 1 from by kernel_rfl, show List.range 4 = [0, 1, 2, 3] from rfl]
  have he := fun (w : World) (a b : Int) => run_equalIn_int w 9998 5 .u8 .u8 a b Tryd.underlying5
  simp only [Op.eqItems, Sem.run_bind, Nat.mul_one, part4_0, Result.andThen_ok, he]
  cases (a0 == b0) with
  | false => simp
  | true =>
    simp only [Bool.not_true, Bool.false_eq_true, if_false, Sem.run_bind, part4_1, Result.andThen_ok, he, Bool.true_and]
    cases (a1 == b1) with
    | false => simp
    | true =>
      simp only [Bool.not_true, Bool.false_eq_true, if_false, Sem.run_bind, part4_2, Result.andThen_ok, he, Bool.true_and]
      cases (a2 == b2) with
      | false => simp
      | true =>
        simp only [Bool.not_true, Bool.false_eq_true, if_false, Sem.run_bind, part4_3, Result.andThen_ok, he, Bool.true_and]
        cases (a3 == b3) <;> simp
theorem four_eq (x0 x1 x2 x3 s : Nat) : ((x0 : Int) == (s : Int) % 256 && ((x1 : Int) == (s : Int) / 256 % 256 && ((x2 : Int) == (s : Int) / 65536 % 256 && (x3 : Int) == (s : Int) / 16777216))) = decide ([x0, x1, x2, x3] = Crcm.four s) := by
  rw [Bool.eq_iff_iff]
  simp only [Bool.and_eq_true, beq_iff_eq, decide_eq_true_eq, Crcm.four, List.cons.injEq, and_true]
  omega
set_option maxRecDepth 20000 in
set_option maxHeartbeats 1000000 in
theorem closed_any (l : List Nat) (n : Nat) (a : Option Addr) (cap : Nat) (w : World) (hn : l.length = n) (hb : Bytes w a l) (hl : l.length ≤ maxLen) (hcap : l.length ≤ cap) (ht : Tab w) :
    Calls Tryd.prog 66 #[.slice a n cap] w fun e w' => e = .returned (.bool (closedB l)) ∧ Below w.heap.size w w' := by
  subst hn
  by_cases h4 : 4 ≤ l.length
  · obtain ⟨k, hk⟩ : ∃ k, l.length = k + 4 := ⟨l.length - 4, by omega⟩
    have hne : l ≠ [] := by intro h; subst h; simp at h4
    obtain ⟨b, off, rfl, hlt, hcell⟩ := hb.nonempty hne
    have c0 := hcell k (by omega)
    have c1 := hcell (k + 1) (by omega)
    have c2 := hcell (k + 2) (by omega)
    have c3 := hcell (k + 3) (by omega)
    obtain ⟨x0, e0⟩ : ∃ x, x = l.getD k 0 := ⟨_, rfl⟩
    obtain ⟨x1, e1⟩ : ∃ x, x = l.getD (k + 1) 0 := ⟨_, rfl⟩
    obtain ⟨x2, e2⟩ : ∃ x, x = l.getD (k + 2) 0 := ⟨_, rfl⟩
    obtain ⟨x3, e3⟩ : ∃ x, x = l.getD (k + 3) 0 := ⟨_, rfl⟩
    rw [← e0] at c0
    rw [← e1, ← Nat.add_assoc] at c1
    rw [← e2, ← Nat.add_assoc] at c2
    rw [← e3, ← Nat.add_assoc] at c3
    have hq : l.drop k = [x0, x1, x2, x3] := by
      rw [drop_at l k x0 (by omega) e0, drop_at l (k + 1) x1 (by omega) e1, drop_at l (k + 2) x2 (by omega) e2, drop_at l (k + 3) x3 (by omega) e3, List.drop_eq_nil_of_le (by omega)]
    have hp : Crcm.sum (l.take k) < 4294967296 := Crcm.sum_lt _ (fun x hx => hb.mem x (List.mem_of_mem_take hx))
    have HC : Hid (closedB l = decide ([x0, x1, x2, x3] = Crcm.four (Crcm.sum (l.take k)))) := by
      show _ = _
      unfold closedB
      rw [show l.length - 4 = k from by omega, hq]
      simp [h4]
    have HTK : Hid ((l.take k).length = k) := by show _ = _; rw [List.length_take]; omega
    have HTM : Hid ((l.take k).length ≤ maxLen) := by show _ ≤ _; rw [List.length_take]; omega
    have HB : Hid (Bytes w (some ⟨b, off, none⟩) (l.take k)) := hb.take k
    have HT : Hid (Tab w) := ht
    obtain ⟨n, hnl⟩ : ∃ n, n = l.length := ⟨_, rfl⟩
    rw [← hnl]
    have hat : (n : Int) - 4 = (k : Int) := by omega
    have hnk : n - k = 4 := by omega
    have hk1 : (k : Int) ≤ (n : Int) := by omega
    have hk2 : (n : Int) ≤ (cap : Int) := by omega
    have hk3 : k ≤ n := by omega
    have hk4 : ¬ cap = k := by omega
    have hk5 : ¬ k = cap := by omega
    have hk6 : k < cap := by omega
    have hk7 : ¬ n = k := by omega
    have hn63 : (n : Int) ≤ 9223372036854775807 := by unfold maxLen at hl; omega
    have HP : Hid (_ < _) := hp
    clear hb ht hcell e0 e1 e2 e3 hq hl hcap h4 hk hne hnl hp
    have harr := fun (W : World) => run_arrayAt (P := Tryd.prog) (w := W) 136 5 4 (some ⟨b, off + k, none⟩) 4 (cap - k) Tryd.underlying136 (Nat.le_refl _)
    have heq4 := eq4
    go_enter Tryd.func66, Tryd.ntmps66
    go_wp2
    go_region_held (fun w' => w'.cell? ⟨b, off + k, none⟩ = some (.int .u8 (x0 : Int)) ∧ w'.cell? ⟨b, off + k + 1, none⟩ = some (.int .u8 (x1 : Int)) ∧ w'.cell? ⟨b, off + k + 2, none⟩ = some (.int .u8 (x2 : Int)) ∧ w'.cell? ⟨b, off + k + 3, none⟩ = some (.int .u8 (x3 : Int))) (go_keep) (first
      | (go_at_call 62; refine (sum_any (l.take k) _ _ _ _ HTK.out (HB.out.drewN 1) HTM.out (HT.out.drewN 1)).mono ?_; rintro e w3 ⟨rfl, rfl⟩)
      | (go_at_call 83; refine (laid_any _ _ HP.out).mono ?_; rintro e w4 ⟨rfl, hb4⟩; have d0 := hb4.cell (p := ⟨b, off + k, none⟩) hlt; have d1 := hb4.cell (p := ⟨b, off + k + 1, none⟩) hlt; have d2 := hb4.cell (p := ⟨b, off + k + 2, none⟩) hlt; have d3 := hb4.cell (p := ⟨b, off + k + 3, none⟩) hlt))
    all_goals go_wp2
    all_goals go_ret
    all_goals exact ⟨ret_bool (by rw [HC.out]; exact four_eq _ _ _ _ _), (below_drewN (Below.refl _ _) 1).trans hb4⟩
  · have HC : Hid (closedB l = false) := by
      show _ = _
      unfold closedB
      simp [h4]
    obtain ⟨at0, hat⟩ : ∃ at0 : Int, (l.length : Int) - 4 = at0 := ⟨_, rfl⟩
    have hd : decide ((0 : Int) ≤ at0) = false := by simp; omega
    have hl4 : (l.length : Int) ≤ 3 := by omega
    generalize l.length = n at *
    clear h4 hb ht
    go_enter Tryd.func66, Tryd.ntmps66
    go_wp2
    go_quiet (fail)
    go_wp2
    go_ret
    exact ⟨by rw [HC.out]; rfl, below_drewN (Below.refl _ _) _⟩
end Go.Proofs.YtaegmeilhdbnnaaDoor
namespace Go.Proofs.YtaegmeilhdbnnaaDoor
set_option linter.unusedVariables false
/-- so many bytes of a number, the lowest first -/
def le : Nat → Nat → List Nat
  | 0, _ => []
  | k + 1, x => x % 256 :: le k (x / 256)
theorem le_length (k x : Nat) : (le k x).length = k := by
  induction k generalizing x with
  | zero => rfl
  | succ k ih => simp [le, ih]
theorem le_lt (k x : Nat) : ∀ y ∈ le k x, y < 256 := by
  induction k generalizing x with
  | zero => intro y hy; cases hy
  | succ k ih =>
    intro y hy
    simp only [le, List.mem_cons] at hy
    rcases hy with rfl | hy
    · omega
    · exact ih _ y hy
theorem le_val (k x : Nat) (h : x < 256 ^ k) : Crcm.val (le k x) = x := by
  induction k generalizing x with
  | zero => simp at h; subst h; rfl
  | succ k ih =>
    have h2 : x / 256 < 256 ^ k := Nat.div_lt_of_lt_mul (by rw [Nat.pow_succ, Nat.mul_comm] at h; exact h)
    simp only [le, Crcm.val]
    rw [ih _ h2]
    omega
theorem val_le (l : List Nat) (hl : ∀ x ∈ l, x < 256) : le l.length (Crcm.val l) = l := by
  induction l with
  | nil => rfl
  | cons c r ih =>
    have hc := hl c (List.mem_cons_self ..)
    have e1 : Crcm.val (c :: r) = c + 256 * Crcm.val r := rfl
    simp only [List.length_cons, le]
    rw [e1, show (c + 256 * Crcm.val r) % 256 = c from by omega, show (c + 256 * Crcm.val r) / 256 = Crcm.val r from by omega, ih (fun x hx => hl x (List.mem_cons_of_mem _ hx))]
theorem le_snoc (k x : Nat) : le (k + 1) x = le k x ++ [x / 256 ^ k % 256] := by
  induction k generalizing x with
  | zero => simp [le]
  | succ k ih =>
    show x % 256 :: le (k + 1) (x / 256) = (x % 256 :: le k (x / 256)) ++ _
    rw [ih, List.cons_append, Nat.div_div_eq_div_mul, Nat.pow_succ, Nat.mul_comm 256]
def head12 (k n s : Nat) : List Nat := 165 :: k :: (le 2 n ++ le 8 s)
def headL (k n s : Nat) : List Nat := head12 k n s ++ Crcm.four (Crcm.sum (head12 k n s))
def frameL (k s : Nat) (body : List Nat) : List Nat := headL k body.length s ++ (body ++ Crcm.four (Crcm.sum body))
theorem head12_length (k n s : Nat) : (head12 k n s).length = 12 := by simp [head12, le_length]
theorem four_length (s : Nat) : (Crcm.four s).length = 4 := rfl
theorem headL_length (k n s : Nat) : (headL k n s).length = 16 := by simp [headL, head12_length, four_length]
theorem frameL_length (k s : Nat) (body : List Nat) : (frameL k s body).length = body.length + 20 := by
  simp only [frameL, List.length_append, headL_length, four_length]; omega
theorem head12_lt (k n s : Nat) (hk : k < 256) : ∀ y ∈ head12 k n s, y < 256 := by
  intro y hy
  simp only [head12, List.mem_cons, List.mem_append] at hy
  rcases hy with rfl | rfl | hy | hy
  · omega
  · omega
  · exact le_lt _ _ y hy
  · exact le_lt _ _ y hy
theorem headL_lt (k n s : Nat) (hk : k < 256) : ∀ y ∈ headL k n s, y < 256 := by
  intro y hy
  rcases List.mem_append.1 hy with h | h
  · exact head12_lt k n s hk y h
  · exact Crcm.four_lt _ (Crcm.sum_lt _ (head12_lt k n s hk)) y h
theorem foot_lt (body : List Nat) (hb : ∀ y ∈ body, y < 256) : ∀ y ∈ body ++ Crcm.four (Crcm.sum body), y < 256 := by
  intro y hy
  rcases List.mem_append.1 hy with h | h
  · exact hb y h
  · exact Crcm.four_lt _ (Crcm.sum_lt _ hb) y h
theorem frameL_lt (k s : Nat) (body : List Nat) (hk : k < 256) (hb : ∀ y ∈ body, y < 256) : ∀ y ∈ frameL k s body, y < 256 := by
  intro y hy
  rcases List.mem_append.1 hy with h | h
  · exact headL_lt _ _ _ hk y h
  · exact foot_lt body hb y h
/-- the kind, the body's length and the number that a head tells -/
def pk (l : List Nat) : Nat := l.getD 1 0
def pn (l : List Nat) : Nat := l.getD 2 0 + 256 * l.getD 3 0
def ps (l : List Nat) : Nat := Crcm.val ((l.drop 4).take 8)
def peekE (l : List Nat) : Nat :=
  if l.length < 16 then 60 else if l.getD 0 0 ≠ 165 then 61 else if closedB (l.take 16) = false then 62
  else if pn l ≤ 16384 ∧ 1 ≤ pk l ∧ pk l ≤ 7 ∧ ps l ≤ 1099511627776 then 0 else 63
def peekK (l : List Nat) : Nat := if peekE l = 0 then pk l else 0
def peekS (l : List Nat) : Nat := if peekE l = 0 then ps l else 0
def peekN (l : List Nat) : Nat := if peekE l = 0 then pn l + 20 else 0
def decE (l : List Nat) : Nat :=
  if peekE l ≠ 0 then peekE l else if l.length < pn l + 20 then 60 else if closedB ((l.take (pn l + 20)).drop 16) = false then 62 else 0
def decK (l : List Nat) : Nat := if decE l = 0 then pk l else 0
def decS (l : List Nat) : Nat := if decE l = 0 then ps l else 0
def decN (l : List Nat) : Nat := if decE l = 0 then pn l + 20 else 0
def decB (l : List Nat) : List Nat := if decE l = 0 then (l.drop 16).take (pn l) else []
theorem decE_zero {l : List Nat} (h : decE l = 0) : peekE l = 0 ∧ pn l + 20 ≤ l.length ∧ closedB ((l.take (pn l + 20)).drop 16) = true := by
  unfold decE at h
  by_cases h1 : peekE l = 0
  · rw [if_neg (by omega)] at h
    by_cases h2 : l.length < pn l + 20
    · rw [if_pos h2] at h; omega
    · rw [if_neg h2] at h
      by_cases h3 : closedB ((l.take (pn l + 20)).drop 16) = false
      · rw [if_pos h3] at h; omega
      · exact ⟨h1, by omega, by simpa using h3⟩
  · rw [if_pos h1] at h; exact absurd h h1
theorem peekE_zero {l : List Nat} (h : peekE l = 0) : 16 ≤ l.length ∧ l.getD 0 0 = 165 ∧ closedB (l.take 16) = true ∧ pn l ≤ 16384 ∧ 1 ≤ pk l ∧ pk l ≤ 7 ∧ ps l ≤ 1099511627776 := by
  unfold peekE at h
  by_cases h1 : l.length < 16
  · rw [if_pos h1] at h; omega
  rw [if_neg h1] at h
  by_cases h2 : l.getD 0 0 ≠ 165
  · rw [if_pos h2] at h; omega
  rw [if_neg h2] at h
  by_cases h3 : closedB (l.take 16) = false
  · rw [if_pos h3] at h; omega
  rw [if_neg h3] at h
  by_cases h4 : pn l ≤ 16384 ∧ 1 ≤ pk l ∧ pk l ≤ 7 ∧ ps l ≤ 1099511627776
  · exact ⟨by omega, by omega, by simpa using h3, h4⟩
  · rw [if_neg h4] at h; omega
/-- a head of 16 bytes, laid and read -/
theorem closed_whole (l : List Nat) (hl : ∀ x ∈ l, x < 256) : closedB (l ++ Crcm.four (Crcm.sum l)) = true := by
  unfold closedB
  have hn : (l ++ Crcm.four (Crcm.sum l)).length = l.length + 4 := by rw [List.length_append]; rfl
  rw [hn, show l.length + 4 - 4 = l.length from by omega, List.drop_left, List.take_left]
  simp
theorem closed_form (l : List Nat) (h : closedB l = true) : 4 ≤ l.length ∧ l = l.take (l.length - 4) ++ Crcm.four (Crcm.sum (l.take (l.length - 4))) := by
  unfold closedB at h
  have h2 := of_decide_eq_true h
  refine ⟨h2.1, ?_⟩
  conv => lhs; rw [← List.take_append_drop (l.length - 4) l]
  rw [h2.2]
theorem le2 (n : Nat) : le 2 n = [n % 256, n / 256 % 256] := rfl
theorem head_parts (k n s : Nat) (r : List Nat) (hn : n < 65536) (hs : s < 18446744073709551616) :
    pk (headL k n s ++ r) = k ∧ pn (headL k n s ++ r) = n ∧ ps (headL k n s ++ r) = s ∧ (headL k n s ++ r).getD 0 0 = 165 ∧ (headL k n s ++ r).take 16 = headL k n s := by
  refine ⟨rfl, ?_, ?_, rfl, ?_⟩
  · show n % 256 + 256 * (n / 256 % 256) = n
    omega
  · unfold ps
    have e : (headL k n s ++ r).drop 4 = le 8 s ++ (Crcm.four (Crcm.sum (head12 k n s)) ++ r) := by
      unfold headL head12
      rw [le2]
      simp
    rw [e, List.take_left' (le_length 8 s), le_val 8 s (by rw [show (256 : Nat) ^ 8 = 18446744073709551616 from by decide]; exact hs)]
  · rw [List.take_left' (headL_length k n s)]
theorem peek_laid (k n s : Nat) (r : List Nat) (hk1 : 1 ≤ k) (hk7 : k ≤ 7) (hn : n ≤ 16384) (hs : s ≤ 1099511627776) : peekE (headL k n s ++ r) = 0 := by
  obtain ⟨h1, h2, h3, h4, h5⟩ := head_parts k n s r (by omega) (by omega)
  unfold peekE
  rw [h1, h2, h3, h4, h5, if_neg (by rw [List.length_append, headL_length]; omega), if_neg (by omega), if_neg, if_pos ⟨hn, hk1, hk7, hs⟩]
  unfold headL
  rw [closed_whole _ (head12_lt k n s (by omega))]
  simp
theorem dec_laid (k s : Nat) (body r : List Nat) (hb : ∀ y ∈ body, y < 256) (hk1 : 1 ≤ k) (hk7 : k ≤ 7) (hn : body.length ≤ 16384) (hs : s ≤ 1099511627776) :
    decE (frameL k s body ++ r) = 0 ∧ decK (frameL k s body ++ r) = k ∧ decS (frameL k s body ++ r) = s ∧ decN (frameL k s body ++ r) = body.length + 20 ∧ decB (frameL k s body ++ r) = body := by
  have e0 : frameL k s body ++ r = headL k body.length s ++ (body ++ Crcm.four (Crcm.sum body) ++ r) := by unfold frameL; rw [List.append_assoc]
  obtain ⟨h1, h2, h3, h4, h5⟩ := head_parts k body.length s (body ++ Crcm.four (Crcm.sum body) ++ r) (by omega) (by omega)
  have h0 := peek_laid k body.length s (body ++ Crcm.four (Crcm.sum body) ++ r) hk1 hk7 hn hs
  rw [← e0] at h0 h1 h2 h3 h4 h5
  have hE : decE (frameL k s body ++ r) = 0 := by
    unfold decE
    rw [h0, h2, if_neg (by omega), if_neg (by rw [List.length_append, frameL_length]; omega), if_neg]
    rw [List.take_left' (frameL_length k s body)]
    unfold frameL
    rw [List.drop_left' (headL_length k body.length s), closed_whole _ hb]
    simp
  refine ⟨hE, ?_, ?_, ?_, ?_⟩
  · unfold decK; rw [if_pos hE, h1]
  · unfold decS; rw [if_pos hE, h3]
  · unfold decN; rw [if_pos hE, h2]
  · unfold decB
    rw [if_pos hE, h2, e0, List.drop_left' (headL_length k body.length s), List.append_assoc, List.take_left' rfl]
theorem dec_short (k s m : Nat) (body : List Nat) (hb : ∀ y ∈ body, y < 256) (hk1 : 1 ≤ k) (hk7 : k ≤ 7) (hn : body.length ≤ 16384) (hs : s ≤ 1099511627776) (hm : m < body.length + 20) : decE ((frameL k s body).take m) = 60 := by
  by_cases h16 : m < 16
  · unfold decE
    have hp : peekE ((frameL k s body).take m) = 60 := by
      unfold peekE
      rw [if_pos (by rw [List.length_take]; omega)]
    rw [hp, if_pos (by omega)]
  · have e0 : (frameL k s body).take m = headL k body.length s ++ (body ++ Crcm.four (Crcm.sum body)).take (m - 16) := by
      unfold frameL
      rw [List.take_append, headL_length, List.take_of_length_le (by rw [headL_length]; omega)]
    obtain ⟨h1, h2, h3, h4, h5⟩ := head_parts k body.length s ((body ++ Crcm.four (Crcm.sum body)).take (m - 16)) (by omega) (by omega)
    have h0 := peek_laid k body.length s ((body ++ Crcm.four (Crcm.sum body)).take (m - 16)) hk1 hk7 hn hs
    rw [← e0] at h0 h2
    unfold decE
    rw [h0, h2, if_neg (by omega), if_pos (by rw [List.length_take, frameL_length]; omega)]
/-- what is read is what would be laid -/
theorem head_form (l : List Nat) (hl : ∀ y ∈ l, y < 256) (h : peekE l = 0) : l.take 16 = headL (pk l) (pn l) (ps l) := by
  obtain ⟨h1, h2, h3, h4, h5, h6, h7⟩ := peekE_zero h
  obtain ⟨_, hf⟩ := closed_form _ h3
  have hlen : (l.take 16).length = 16 := by rw [List.length_take]; omega
  rw [hlen, List.take_take, show min (16 - 4) 16 = 12 from rfl] at hf
  have e12 : l.take 12 = head12 (pk l) (pn l) (ps l) := by
    have e1 := drop_at l 0 _ (by omega) rfl
    have e2 := drop_at l 1 _ (by omega) rfl
    have e3 := drop_at l 2 _ (by omega) rfl
    have e4 := drop_at l 3 _ (by omega) rfl
    rw [List.drop_zero] at e1
    have b2 := getD_lt hl 2
    have b3 := getD_lt hl 3
    have e5 : l.take 12 = l.getD 0 0 :: l.getD 1 0 :: l.getD 2 0 :: l.getD 3 0 :: (l.drop 4).take 8 := by
      conv => lhs; rw [e1, e2, e3, e4]
      rfl
    have e6 : le 8 (ps l) = (l.drop 4).take 8 := by
      have h8 : ((l.drop 4).take 8).length = 8 := by rw [List.length_take, List.length_drop]; omega
      have := val_le ((l.drop 4).take 8) (fun x hx => hl x (List.mem_of_mem_drop (List.mem_of_mem_take hx)))
      rw [h8] at this
      exact this
    unfold head12
    rw [e5, e6, le2, h2]
    unfold pk pn
    rw [show (l.getD 2 0 + 256 * l.getD 3 0) % 256 = l.getD 2 0 from by omega, show (l.getD 2 0 + 256 * l.getD 3 0) / 256 % 256 = l.getD 3 0 from by omega]
    rfl
  rw [hf, e12]
  rfl
theorem dec_form (l : List Nat) (hl : ∀ y ∈ l, y < 256) (h : decE l = 0) : l.take (pn l + 20) = frameL (pk l) (ps l) ((l.drop 16).take (pn l)) := by
  obtain ⟨h1, h2, h3⟩ := decE_zero h
  obtain ⟨_, hf⟩ := closed_form _ h3
  have hlen : ((l.take (pn l + 20)).drop 16).length = pn l + 4 := by rw [List.length_drop, List.length_take]; omega
  rw [hlen, show pn l + 4 - 4 = pn l from by omega] at hf
  have e1 : ((l.take (pn l + 20)).drop 16).take (pn l) = (l.drop 16).take (pn l) := by
    rw [List.drop_take, List.take_take, Nat.min_eq_left (by omega)]
  rw [e1] at hf
  have hbl : ((l.drop 16).take (pn l)).length = pn l := by rw [List.length_take, List.length_drop]; omega
  unfold frameL
  rw [hbl, ← hf, ← head_form l hl h1]
  have e2 : l.take 16 = (l.take (pn l + 20)).take 16 := by rw [List.take_take, Nat.min_eq_left (by omega)]
  rw [e2, List.take_append_drop]
end Go.Proofs.YtaegmeilhdbnnaaDoor
