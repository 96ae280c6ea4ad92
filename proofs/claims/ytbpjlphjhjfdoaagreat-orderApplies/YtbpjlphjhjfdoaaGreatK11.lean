/- Own texts, joined: Wide, Len, Divm. -/
import Derived.Test.YtbpjlphjhjfdoaaGreatRows
import Derived.Test.YtbpjlphjhjfdoaaGreatK00
import Derived.Shelf.Spec.BitsCarry
import Derived.StillTactics
import Derived.Laws.Pointers
import Derived.Deep.RegionHeld
import Derived.Deep.RegionHeld3
namespace Go.Proofs.YtbpjlphjhjfdoaaGreat
open Go.ChangeShapes Go.WideShapes Go.ChangeAt Go.RowKit
theorem bal {a w : World} (h : Below a.heap.size a w) (o : Obj) : Below a.heap.size a (w.alloc o) := h.alloc h.size o
theorem bnx {a b c : World} (h : Below a.heap.size a b) (k : Below b.heap.size b c) : Below a.heap.size a c := h.trans (k.mono h.size)
theorem bel2 (w : World) (o p : Obj) : Below w.heap.size w ((w.alloc o).alloc p) := bal (bal (Below.refl _ _) _) _
theorem bel5 (w : World) (o p q r s : Obj) : Below w.heap.size w (((((w.alloc o).alloc p).alloc q).alloc r).alloc s) := bal (bal (bal (bel2 _ _ _) _) _) _
def bor (x y : Int) : Int := if x < y then 1 else 0
theorem sub64_0 (x y : Int) (hx : 0 ≤ x) (hy : 0 ≤ y) (hy' : y < 18446744073709551616) (w : World) : (callFunc 109 #[.int .u64 x, .int .u64 y, .int .u64 0]).run Tryz.prog w =
    .ok (.value (.tuple #[.int .u64 ((x - y) % 18446744073709551616), .int .u64 (bor x y)])) w := by
  obtain ⟨x, rfl⟩ := Int.eq_ofNat_of_zero_le hx
  obtain ⟨y, rfl⟩ := Int.eq_ofNat_of_zero_le hy
  have e1 : (((x + 18446744073709551616 - y - 0) % 18446744073709551616 : Nat) : Int) = ((x : Int) - y) % 18446744073709551616 := by omega
  have e2 : ((if x < y + 0 then 1 else 0 : Nat) : Int) = bor (x : Int) y := by unfold bor; split <;> split <;> omega
  rw [← e1, ← e2]
  rw [run_callFunc_extern Tryz.func109 (by kernel_rfl) (by kernel_rfl) (by kernel_rfl) (e := sub64Entry) (by kernel_rfl)]
  rw [show ((0 : Int)) = ((0 : Nat) : Int) from rfl, run_sub64 x y 0 (by omega)]
  rfl
def W128 (V : Int) : Value := .agg #[.int .i64 (V / 18446744073709551616), .int .u64 (V % 18446744073709551616)]
theorem ret_agg {a b c d : Int} (h1 : a = c) (h2 : b = d) : Ending.returned (.agg #[.int .i64 a, .int .u64 b]) = .returned (.agg #[.int .i64 c, .int .u64 d]) := by rw [h1, h2]
theorem widen_any (a : Int) (w : World) (h0 : -9223372036854775808 ≤ a) (h1 : a ≤ 9223372036854775807) :
    Calls Tryz.prog 103 #[.int .i64 a] w fun e w' => e = .returned (W128 a) ∧ ∃ c, w' = w.alloc (.cells c 98) := by
  have hz : Hid (a / 9223372036854775808 = a / 18446744073709551616) := by show _ = _; omega
  have hy : Hid (IntKind.u64.wrap a = a % 18446744073709551616) := IntKind.wrap_u64 a
  go_enter Tryz.func103, Tryz.ntmps103
  go_wp2
  simp [bodyPost, results, Tryz.results103, go_sem]
  refine ⟨?_, _, rfl⟩
  unfold W128
  rw [hz.out, hy.out]
theorem minus_any (x y : Int) (w : World) (h0 : -170141183460469231731687303715884105728 ≤ x - y) (h1 : x - y ≤ 170141183460469231731687303715884105727) :
    Calls Tryz.prog 102 #[W128 x, W128 y] w fun e w' => e = .returned (W128 (x - y)) ∧ ∃ c1 c2 c3, w' = ((w.alloc (.cells c1 98)).alloc (.cells c2 98)).alloc (.cells c3 98) := by
  have k1 : 0 ≤ x % 18446744073709551616 := by omega
  have k2 : 0 ≤ y % 18446744073709551616 := by omega
  have k3 : y % 18446744073709551616 < 18446744073709551616 := by omega
  have HB : Hid (_ ∧ _) := (⟨h0, h1⟩ : _ ∧ _)
  clear h0 h1
  unfold W128
  go_enter Tryz.func102, Tryz.ntmps102
  go_wp2_with (simp only [sub64_0 _ _ k1 k2 k3])
  simp [bodyPost, results, Tryz.results102, go_sem]
  refine ⟨?_, _, _, _, rfl⟩
  have := HB.out
  simp only [wrap64]
  unfold bor
  split <;> omega
theorem nsize_any (a : Int) (u : Nat) (w : World) (h0 : -9223372036854775808 ≤ a) (h1 : a ≤ 9223372036854775807) (hu : u = a.natAbs) :
    Calls Tryz.prog 85 #[.int .i64 a] w fun e w' => e = .returned (.int .u64 (u : Int)) ∧ w = w' := by
  have HU : Hid (u = a.natAbs) := hu
  clear hu
  by_cases h : a < 0
  · go_enter Tryz.func85, Tryz.ntmps85
    go_wp2
    go_ret
    refine ⟨ret_int ?_, rfl⟩
    have := HU.out
    rw [IntKind.wrap_u64, IntKind.wrap_u64]
    omega
  · go_enter Tryz.func85, Tryz.ntmps85
    go_wp2
    go_ret
    refine ⟨ret_int ?_, rfl⟩
    have := HU.out
    omega
abbrev inI (V : Int) : Prop := -9223372036854775808 ≤ V ∧ V ≤ 9223372036854775807
def fitV (V : Int) : Int := if inI V then V else 0
def fitB (V : Int) : Bool := decide (inI V)
def fitT (V : Int) : Value := .tuple #[.int .i64 (fitV V), .bool (fitB V)]
theorem narrow_any (V : Int) (w : World) (h0 : -170141183460469231731687303715884105728 ≤ V) (h1 : V ≤ 170141183460469231731687303715884105727) :
    Calls Tryz.prog 88 #[W128 V] w fun e w' => e = .returned (fitT V) ∧ Below w.heap.size w w' := by
  by_cases hf : inI V
  · have hT : Hid (fitT V = .tuple #[.int .i64 V, .bool true]) := by show _ = _; unfold fitT fitV fitB; rw [if_pos hf, decide_eq_true hf]
    have e1 : wrap64 (V % 18446744073709551616) = V := by unfold inI at hf; unfold wrap64; omega
    have HF : Hid (inI V) := hf
    clear hf h0 h1
    unfold W128
    go_enter Tryz.func88, Tryz.ntmps88
    go_wp2
    go_region_held3 (fun w' => w'.cell? ⟨w.heap.size, 0, none⟩ = some (.int .i64 (V / 18446744073709551616)) ∧ w'.cell? ⟨w.heap.size, 1, none⟩ = some (.int .u64 (V % 18446744073709551616))) (simp [go_sem, World.cell?_alloc_past])
      (first | (go_at_call 103; refine (widen_any V _ HF.out.1 HF.out.2).mono ?_; unfold W128; rintro e w2 ⟨rfl, c, rfl⟩))
    go_wp2
    go_ret2
    refine ⟨by rw [hT.out]; rfl, ?_⟩
    exact (((Below.refl _ _).alloc (Nat.le_refl _) _).drew.alloc (by simp) _)
  · have hT : Hid (fitT V = .tuple #[.int .i64 0, .bool false]) := by show _ = _; unfold fitT fitV fitB; rw [if_neg hf, decide_eq_false hf]
    obtain ⟨L, e1⟩ : ∃ L, wrap64 (V % 18446744073709551616) = L := ⟨_, rfl⟩
    have e2 : ¬ V / 18446744073709551616 = L / 18446744073709551616 := by unfold inI at hf; unfold wrap64 at e1; omega
    have HF : Hid (inI L) := by show inI L; unfold inI; unfold wrap64 at e1; omega
    clear hf h0 h1
    unfold W128
    go_enter Tryz.func88, Tryz.ntmps88
    go_wp2
    go_region_held3 (fun w' => w'.cell? ⟨w.heap.size, 0, none⟩ = some (.int .i64 (V / 18446744073709551616)) ∧ w'.cell? ⟨w.heap.size, 1, none⟩ = some (.int .u64 (V % 18446744073709551616))) (simp [go_sem, World.cell?_alloc_past])
      (first | (go_at_call 103; refine (widen_any L _ HF.out.1 HF.out.2).mono ?_; unfold W128; rintro e w2 ⟨rfl, c, rfl⟩))
    go_wp2
    go_ret2
    refine ⟨by rw [hT.out]; rfl, ?_⟩
    exact (((Below.refl _ _).alloc (Nat.le_refl _) _).drew.alloc (by simp) _)
theorem signed_any (hi lo : Nat) (neg : Bool) (V : Int) (w : World) (h : hi < 9223372036854775808) (hl : lo < 18446744073709551616) (hV : V = if neg then -((hi : Int) * 18446744073709551616 + lo) else (hi : Int) * 18446744073709551616 + lo) :
    Calls Tryz.prog 87 #[.int .u64 (hi : Int), .int .u64 (lo : Int), .bool neg] w fun e w' => e = .returned (W128 V) ∧ Below w.heap.size w w' := by
  have h1 : wrap64 (hi : Int) = (hi : Int) := by unfold wrap64; omega
  have HW : Hid (W128 ((hi : Int) * 18446744073709551616 + lo) = .agg #[.int .i64 (hi : Int), .int .u64 (lo : Int)]) := by
    show _ = _
    unfold W128
    rw [show ((hi : Int) * 18446744073709551616 + lo) / 18446744073709551616 = hi from by omega, show ((hi : Int) * 18446744073709551616 + lo) % 18446744073709551616 = lo from by omega]
  cases neg with
  | true =>
    have HV : Hid (V = 0 - ((hi : Int) * 18446744073709551616 + lo)) := by show _ = _; rw [hV, if_pos rfl]; omega
    have HB : Hid (hi < 9223372036854775808 ∧ lo < 18446744073709551616) := ⟨h, hl⟩
    clear hV h hl
    go_enter Tryz.func87, Tryz.ntmps87
    go_wp2_with (go_at_call 102; rw [show (Value.agg #[.int .i64 (hi : Int), .int .u64 (lo : Int)]) = W128 ((hi : Int) * 18446744073709551616 + lo) from HW.out.symm, show (Value.agg #[.int .i64 0, .int .u64 0]) = W128 0 from rfl]; refine (minus_any 0 _ _ (by have := HB.out; omega) (by have := HB.out; omega)).mono ?_; rw [← HV.out]; unfold W128; rintro e w2 ⟨rfl, c1, c2, c3, rfl⟩)
    simp [bodyPost, results, Tryz.results87, go_sem]
    exact ⟨rfl, bel5 _ _ _ _ _ _⟩
  | false =>
    have HV : Hid (V = (hi : Int) * 18446744073709551616 + lo) := by show _ = _; rw [hV]; rfl
    clear hV h hl
    go_enter Tryz.func87, Tryz.ntmps87
    go_wp2
    simp [bodyPost, results, Tryz.results87, go_sem]
    exact ⟨by rw [HV.out]; exact HW.out.symm, bel2 _ _ _⟩
end Go.Proofs.YtbpjlphjhjfdoaaGreat
namespace Go.Proofs.YtbpjlphjhjfdoaaGreat
open Go.ChangeShapes Go.WideShapes Go.ChangeAt Go.RowKit
set_option maxRecDepth 20000 in
set_option maxHeartbeats 1000000 in
theorem len_any (x : Int) (w : World) (h0 : 0 ≤ x) (h1 : x ≤ 18446744073709551615) :
    Calls Tryz.prog 108 #[.int .u64 x] w fun e w' => e = .returned (.int .i64 (bitLen x.toNat)) ∧ w = w' := by
  by_cases c1 : 4294967296 ≤ x
  · have H1 : Hid (bitLen (x).toNat = 32 + bitLen (x / 4294967296).toNat) := by
      show _ = _
      rw [bitLen_shift _ 32 (by omega)]
      rw [show (x).toNat / 2 ^ 32 = (x / 4294967296).toNat from by omega]
    by_cases c2 : 65536 ≤ x / 4294967296
    · have H2 : Hid (bitLen (x / 4294967296).toNat = 16 + bitLen (x / 4294967296 / 65536).toNat) := by
        show _ = _
        rw [bitLen_shift _ 16 (by omega)]
        rw [show (x / 4294967296).toNat / 2 ^ 16 = (x / 4294967296 / 65536).toNat from by omega]
      by_cases c3 : 256 ≤ x / 4294967296 / 65536
      · have H3 : Hid (bitLen (x / 4294967296 / 65536).toNat = 8 + bitLen (x / 4294967296 / 65536 / 256).toNat) := by
          show _ = _
          rw [bitLen_shift _ 8 (by omega)]
          rw [show (x / 4294967296 / 65536).toNat / 2 ^ 8 = (x / 4294967296 / 65536 / 256).toNat from by omega]
        have HI : Hid ((x / 4294967296 / 65536 / 256).toNat < 256) := by show _ < _; omega
        have HB : Hid (bitLen x.toNat = 56 + bitLen (x / 4294967296 / 65536 / 256).toNat) := by
          show _ = _
          rw [H1.out, H2.out, H3.out]; omega
        clear H1 H2 H3
        go_enter Tryz.func108, Tryz.ntmps108
        go_wp2
        go_ret
        refine ⟨ret_int ?_, rfl⟩
        rw [len8tab_get _ _]
        exact len_close 56 x.toNat _ HB.out HI.out (by omega)
      · have d3 : x / 4294967296 / 65536 < 256 := by omega
        clear c3
        have HI : Hid ((x / 4294967296 / 65536).toNat < 256) := by show _ < _; omega
        have HB : Hid (bitLen x.toNat = 48 + bitLen (x / 4294967296 / 65536).toNat) := by
          show _ = _
          rw [H1.out, H2.out]; omega
        clear H1 H2
        go_enter Tryz.func108, Tryz.ntmps108
        go_wp2
        go_ret
        refine ⟨ret_int ?_, rfl⟩
        rw [len8tab_get _ _]
        exact len_close 48 x.toNat _ HB.out HI.out (by omega)
    · have d2 : x / 4294967296 < 65536 := by omega
      clear c2
      by_cases c3 : 256 ≤ x / 4294967296
      · have H3 : Hid (bitLen (x / 4294967296).toNat = 8 + bitLen (x / 4294967296 / 256).toNat) := by
          show _ = _
          rw [bitLen_shift _ 8 (by omega)]
          rw [show (x / 4294967296).toNat / 2 ^ 8 = (x / 4294967296 / 256).toNat from by omega]
        have HI : Hid ((x / 4294967296 / 256).toNat < 256) := by show _ < _; omega
        have HB : Hid (bitLen x.toNat = 40 + bitLen (x / 4294967296 / 256).toNat) := by
          show _ = _
          rw [H1.out, H3.out]; omega
        clear H1 H3
        go_enter Tryz.func108, Tryz.ntmps108
        go_wp2
        go_ret
        refine ⟨ret_int ?_, rfl⟩
        rw [len8tab_get _ _]
        exact len_close 40 x.toNat _ HB.out HI.out (by omega)
      · have d3 : x / 4294967296 < 256 := by omega
        clear c3
        have HI : Hid ((x / 4294967296).toNat < 256) := by show _ < _; omega
        have HB : Hid (bitLen x.toNat = 32 + bitLen (x / 4294967296).toNat) := by
          show _ = _
          rw [H1.out]
        clear H1
        go_enter Tryz.func108, Tryz.ntmps108
        go_wp2
        go_ret
        refine ⟨ret_int ?_, rfl⟩
        rw [len8tab_get _ _]
        exact len_close 32 x.toNat _ HB.out HI.out (by omega)
  · have d1 : x < 4294967296 := by omega
    clear c1
    by_cases c2 : 65536 ≤ x
    · have H2 : Hid (bitLen (x).toNat = 16 + bitLen (x / 65536).toNat) := by
        show _ = _
        rw [bitLen_shift _ 16 (by omega)]
        rw [show (x).toNat / 2 ^ 16 = (x / 65536).toNat from by omega]
      by_cases c3 : 256 ≤ x / 65536
      · have H3 : Hid (bitLen (x / 65536).toNat = 8 + bitLen (x / 65536 / 256).toNat) := by
          show _ = _
          rw [bitLen_shift _ 8 (by omega)]
          rw [show (x / 65536).toNat / 2 ^ 8 = (x / 65536 / 256).toNat from by omega]
        have HI : Hid ((x / 65536 / 256).toNat < 256) := by show _ < _; omega
        have HB : Hid (bitLen x.toNat = 24 + bitLen (x / 65536 / 256).toNat) := by
          show _ = _
          rw [H2.out, H3.out]; omega
        clear H2 H3
        go_enter Tryz.func108, Tryz.ntmps108
        go_wp2
        go_ret
        refine ⟨ret_int ?_, rfl⟩
        rw [len8tab_get _ _]
        exact len_close 24 x.toNat _ HB.out HI.out (by omega)
      · have d3 : x / 65536 < 256 := by omega
        clear c3
        have HI : Hid ((x / 65536).toNat < 256) := by show _ < _; omega
        have HB : Hid (bitLen x.toNat = 16 + bitLen (x / 65536).toNat) := by
          show _ = _
          rw [H2.out]
        clear H2
        go_enter Tryz.func108, Tryz.ntmps108
        go_wp2
        go_ret
        refine ⟨ret_int ?_, rfl⟩
        rw [len8tab_get _ _]
        exact len_close 16 x.toNat _ HB.out HI.out (by omega)
    · have d2 : x < 65536 := by omega
      clear c2
      by_cases c3 : 256 ≤ x
      · have H3 : Hid (bitLen (x).toNat = 8 + bitLen (x / 256).toNat) := by
          show _ = _
          rw [bitLen_shift _ 8 (by omega)]
          rw [show (x).toNat / 2 ^ 8 = (x / 256).toNat from by omega]
        have HI : Hid ((x / 256).toNat < 256) := by show _ < _; omega
        have HB : Hid (bitLen x.toNat = 8 + bitLen (x / 256).toNat) := by
          show _ = _
          rw [H3.out]
        clear H3
        go_enter Tryz.func108, Tryz.ntmps108
        go_wp2
        go_ret
        refine ⟨ret_int ?_, rfl⟩
        rw [len8tab_get _ _]
        exact len_close 8 x.toNat _ HB.out HI.out (by omega)
      · have d3 : x < 256 := by omega
        clear c3
        have HI : Hid ((x).toNat < 256) := by show _ < _; omega
        have HB : Hid (bitLen x.toNat = 0 + bitLen (x).toNat) := by
          show _ = _
          omega
        go_enter Tryz.func108, Tryz.ntmps108
        go_wp2
        go_ret
        refine ⟨ret_int ?_, rfl⟩
        rw [len8tab_get _ _]
        exact len_close0 x.toNat HI.out
end Go.Proofs.YtbpjlphjhjfdoaaGreat
namespace Go.Proofs.YtbpjlphjhjfdoaaGreat
namespace Divm
theorem guess {q' r' yn1 yn0 u y K : Nat} (hy : y = yn1 * K + yn0) (hu : q' * yn1 + r' = u) : q' * y + r' * K = u * K + q' * yn0 := by
  subst hy hu
  rw [Nat.mul_add, Nat.add_mul, Nat.mul_assoc]
  omega
theorem digit_lt {u y n K : Nat} (hu : u < y) (hn : n < K) : (u * K + n) / y < K := by
  rw [Nat.div_lt_iff_lt_mul (by omega)]
  have : (u + 1) * K ≤ y * K := Nat.mul_le_mul_right _ hu
  rw [Nat.add_mul] at this
  rw [Nat.mul_comm K y]
  omega
theorem over {q' r' yn1 yn0 u y n K : Nat} (hy : y = yn1 * K + yn0) (hu : q' * yn1 + r' = u) (hlt : u < y) (hn : n < K) (h : K ≤ q' ∨ K * r' + n < q' * yn0) : (u * K + n) / y < q' := by
  rcases h with h | h
  · exact Nat.lt_of_lt_of_le (digit_lt hlt hn) h
  · rw [Nat.div_lt_iff_lt_mul (by omega)]
    have := guess hy hu
    rw [Nat.mul_comm K r'] at h
    omega
theorem under {q' r' yn1 yn0 u y n K : Nat} (hy : y = yn1 * K + yn0) (hu : q' * yn1 + r' = u) (hlt : u < y) (h : q' * yn0 ≤ K * r' + n) : q' ≤ (u * K + n) / y := by
  rw [Nat.le_div_iff_mul_le (by omega)]
  have := guess hy hu
  rw [Nat.mul_comm K r'] at h
  omega
theorem less {q' r' yn1 u : Nat} (h1 : 1 ≤ q') (hu : q' * yn1 + r' = u) : (q' - 1) * yn1 + (r' + yn1) = u := by
  obtain ⟨q, rfl⟩ : ∃ q, q' = q + 1 := ⟨q' - 1, by omega⟩
  rw [Nat.add_sub_cancel, ← hu, Nat.add_mul]
  omega
theorem broke {q' r' yn1 yn0 u y n K : Nat} (hy : y = yn1 * K + yn0) (hu : q' * yn1 + r' = u) (hlt : u < y) (hq : q' ≤ K) (h0 : yn0 < K) (hr : K ≤ r') : q' ≤ (u * K + n) / y := by
  refine under hy hu hlt ?_
  have h1 : q' * yn0 ≤ K * r' := Nat.mul_le_mul hq (by omega)
  omega
theorem first_le {u y yn1 yn0 K : Nat} (hy : y = yn1 * K + yn0) (hlt : u < y) (h0 : yn0 < K) (h1 : K ≤ 2 * yn1) (hK : 0 < K) : u / yn1 ≤ K + 1 := by
  have : u / yn1 < K + 2 := by
    rw [Nat.div_lt_iff_lt_mul (by omega), Nat.add_mul, Nat.mul_comm K yn1]
    omega
  omega
theorem first_ge {u y yn1 yn0 n K : Nat} (hy : y = yn1 * K + yn0) (hn : n < K) (h1 : 0 < yn1) (hK : 0 < K) : (u * K + n) / y ≤ u / yn1 := by
  have hle : (u * K + n) / y ≤ (u * K + n) / (yn1 * K) := Nat.div_le_div_left (by omega) (Nat.mul_pos h1 hK)
  rw [Nat.mul_comm yn1 K, ← Nat.div_div_eq_div_mul, Nat.mul_comm u K, Nat.mul_add_div hK, Nat.div_eq_of_lt hn] at hle
  rw [Nat.mul_comm u K]
  simpa using hle
theorem rest_wrap {u n q y K : Nat} (hq : q = (u * K + n) / y) (hy : y ≤ 18446744073709551616) (h0 : 0 < y) :
    (((u : Int) * K % 18446744073709551616 + n) % 18446744073709551616 - (q : Int) * y % 18446744073709551616) % 18446744073709551616 = (((u * K + n) % y : Nat) : Int) := by
  have h1 := Nat.div_add_mod (u * K + n) y
  have h2 := Nat.mod_lt (u * K + n) h0
  rw [← hq, Nat.mul_comm] at h1
  have h3 : (u : Int) * K + n = (q : Int) * y + ((u * K + n) % y : Nat) := by exact_mod_cast h1.symm
  generalize (q : Int) * y = A at *
  generalize (u : Int) * K = B at *
  omega
theorem both {N y q1 q0 un32 un1 un0 p K m r : Nat} (hp : 0 < p) (hy : 0 < y) (hN : N * p = (un32 * K + un1) * K + un0)
    (hm : (un32 * K + un1) % (y * p) = m) (hr : (m * K + un0) % (y * p) = r)
    (h1 : q1 = (un32 * K + un1) / (y * p)) (h0 : q0 = (m * K + un0) / (y * p)) :
    q1 * K + q0 = N / y ∧ r / p = N % y := by
  have hyp : 0 < y * p := Nat.mul_pos hy hp
  have a1 := Nat.div_add_mod (un32 * K + un1) (y * p)
  have a0 := Nat.div_add_mod (m * K + un0) (y * p)
  have b0 := Nat.mod_lt (m * K + un0) hyp
  rw [← h1, hm] at a1
  rw [← h0, hr] at a0
  rw [hr] at b0
  have hT : N * p = y * p * (q1 * K + q0) + r := by
    rw [hN, ← a1, Nat.mul_add, Nat.add_mul, Nat.mul_assoc (y * p) q1 K]
    omega
  have hd : N * p / (y * p) = N / y := Nat.mul_div_mul_right N y hp
  have hm : N * p % (y * p) = N % y * p := Nat.mul_mod_mul_right p N y
  constructor
  · rw [← hd, hT, Nat.mul_add_div hyp, Nat.div_eq_of_lt b0, Nat.add_zero]
  · have : N * p % (y * p) = r := by rw [hT, Nat.mul_add_mod, Nat.mod_eq_of_lt b0]
    rw [← this, hm, Nat.mul_div_cancel _ hp]
end Divm
end Go.Proofs.YtbpjlphjhjfdoaaGreat
