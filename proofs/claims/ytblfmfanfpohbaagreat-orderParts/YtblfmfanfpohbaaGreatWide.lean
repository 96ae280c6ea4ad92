/- What the wide numbers of package num answer: each a whole number of 128 bits, in two words. -/
import Derived.Test.YtblfmfanfpohbaaGreatRows
import Derived.Test.YtblfmfanfpohbaaGreatAid
import Derived.Shelf.Spec.BitsCarry
import Derived.StillTactics
import Derived.Laws.Pointers
import Derived.Deep.RegionHeld
import Derived.Deep.RegionHeld3
namespace Go.Proofs.YtblfmfanfpohbaaGreat
open Go.ChangeShapes Go.WideShapes Go.ChangeAt Go.RowKit
theorem bal {a w : World} (h : Below a.heap.size a w) (o : Obj) : Below a.heap.size a (w.alloc o) := h.alloc h.size o
theorem bnx {a b c : World} (h : Below a.heap.size a b) (k : Below b.heap.size b c) : Below a.heap.size a c := h.trans (k.mono h.size)
theorem bel2 (w : World) (o p : Obj) : Below w.heap.size w ((w.alloc o).alloc p) := bal (bal (Below.refl _ _) _) _
theorem bel5 (w : World) (o p q r s : Obj) : Below w.heap.size w (((((w.alloc o).alloc p).alloc q).alloc r).alloc s) := bal (bal (bal (bel2 _ _ _) _) _) _
theorem add64_0 (x y : Int) (hx : 0 ≤ x) (hy : 0 ≤ y) (w : World) : (callFunc 113 #[.int .u64 x, .int .u64 y, .int .u64 0]).run Tryz.prog w =
    .ok (.value (.tuple #[.int .u64 ((x + y) % 18446744073709551616), .int .u64 ((x + y) / 18446744073709551616)])) w := by
  rw [run_callFunc_extern Tryz.func113 (by kernel_rfl) (by kernel_rfl) (by kernel_rfl) (e := add64Entry) (by kernel_rfl), run_add64 x y 0 hx hy (by omega) (by omega)]
  simp only [Result.andThen, Int.add_zero]
/-- the borrow -/
def bor (x y : Int) : Int := if x < y then 1 else 0
theorem sub64_0 (x y : Int) (hx : 0 ≤ x) (hy : 0 ≤ y) (hy' : y < 18446744073709551616) (w : World) : (callFunc 116 #[.int .u64 x, .int .u64 y, .int .u64 0]).run Tryz.prog w =
    .ok (.value (.tuple #[.int .u64 ((x - y) % 18446744073709551616), .int .u64 (bor x y)])) w := by
  obtain ⟨x, rfl⟩ := Int.eq_ofNat_of_zero_le hx
  obtain ⟨y, rfl⟩ := Int.eq_ofNat_of_zero_le hy
  have e1 : (((x + 18446744073709551616 - y - 0) % 18446744073709551616 : Nat) : Int) = ((x : Int) - y) % 18446744073709551616 := by omega
  have e2 : ((if x < y + 0 then 1 else 0 : Nat) : Int) = bor (x : Int) y := by unfold bor; split <;> split <;> omega
  rw [← e1, ← e2]
  rw [run_callFunc_extern Tryz.func116 (by kernel_rfl) (by kernel_rfl) (by kernel_rfl) (e := sub64Entry) (by kernel_rfl)]
  rw [show ((0 : Int)) = ((0 : Nat) : Int) from rfl, run_sub64 x y 0 (by omega)]
  rfl
/-- the wide number V -/
def W128 (V : Int) : Value := .agg #[.int .i64 (V / 18446744073709551616), .int .u64 (V % 18446744073709551616)]
theorem ret_agg {a b c d : Int} (h1 : a = c) (h2 : b = d) : Ending.returned (.agg #[.int .i64 a, .int .u64 b]) = .returned (.agg #[.int .i64 c, .int .u64 d]) := by rw [h1, h2]
theorem widen_any (a : Int) (w : World) (h0 : -9223372036854775808 ≤ a) (h1 : a ≤ 9223372036854775807) :
    Calls Tryz.prog 99 #[.int .i64 a] w fun e w' => e = .returned (W128 a) ∧ ∃ c, w' = w.alloc (.cells c 104) := by
  have hz : Hid (a / 9223372036854775808 = a / 18446744073709551616) := by show _ = _; omega
  have hy : Hid (IntKind.u64.wrap a = a % 18446744073709551616) := IntKind.wrap_u64 a
  go_enter Tryz.func99, Tryz.ntmps99
  go_wp2
  simp [bodyPost, results, Tryz.results99, go_sem]
  refine ⟨?_, _, rfl⟩
  unfold W128
  rw [hz.out, hy.out]
theorem plus_any (x y : Int) (w : World) (h0 : -170141183460469231731687303715884105728 ≤ x + y) (h1 : x + y ≤ 170141183460469231731687303715884105727) :
    Calls Tryz.prog 98 #[W128 x, W128 y] w fun e w' => e = .returned (W128 (x + y)) ∧ ∃ c1 c2 c3, w' = ((w.alloc (.cells c1 104)).alloc (.cells c2 104)).alloc (.cells c3 104) := by
  have k1 : 0 ≤ x % 18446744073709551616 := by omega
  have k2 : 0 ≤ y % 18446744073709551616 := by omega
  have HB : Hid (_ ∧ _) := (⟨h0, h1⟩ : _ ∧ _)
  clear h0 h1
  unfold W128
  go_enter Tryz.func98, Tryz.ntmps98
  go_wp2_with (simp only [add64_0 _ _ k1 k2])
  simp [bodyPost, results, Tryz.results98, go_sem]
  refine ⟨?_, _, _, _, rfl⟩
  have := HB.out
  simp only [wrap64]
  omega
theorem minus_any (x y : Int) (w : World) (h0 : -170141183460469231731687303715884105728 ≤ x - y) (h1 : x - y ≤ 170141183460469231731687303715884105727) :
    Calls Tryz.prog 103 #[W128 x, W128 y] w fun e w' => e = .returned (W128 (x - y)) ∧ ∃ c1 c2 c3, w' = ((w.alloc (.cells c1 104)).alloc (.cells c2 104)).alloc (.cells c3 104) := by
  have k1 : 0 ≤ x % 18446744073709551616 := by omega
  have k2 : 0 ≤ y % 18446744073709551616 := by omega
  have k3 : y % 18446744073709551616 < 18446744073709551616 := by omega
  have HB : Hid (_ ∧ _) := (⟨h0, h1⟩ : _ ∧ _)
  clear h0 h1
  unfold W128
  go_enter Tryz.func103, Tryz.ntmps103
  go_wp2_with (simp only [sub64_0 _ _ k1 k2 k3])
  simp [bodyPost, results, Tryz.results103, go_sem]
  refine ⟨?_, _, _, _, rfl⟩
  have := HB.out
  simp only [wrap64]
  unfold bor
  split <;> omega
theorem nsize_any (a : Int) (u : Nat) (w : World) (h0 : -9223372036854775808 ≤ a) (h1 : a ≤ 9223372036854775807) (hu : u = a.natAbs) :
    Calls Tryz.prog 85 #[.int .i64 a] w fun e w' => e = .returned (.int .u64 (u : Int)) ∧ w = w' := by
  have HU : Hid (u = a.natAbs) := hu
  clear hu
  by_cases h : a < 0
  · go_enter Tryz.func85, Tryz.ntmps85
    go_wp2
    go_ret
    refine ⟨ret_int ?_, rfl⟩
    have := HU.out
    rw [IntKind.wrap_u64, IntKind.wrap_u64]
    omega
  · go_enter Tryz.func85, Tryz.ntmps85
    go_wp2
    go_ret
    refine ⟨ret_int ?_, rfl⟩
    have := HU.out
    omega
/-- V, if 64 bits with a sign hold it; else nothing, and false -/
abbrev inI (V : Int) : Prop := -9223372036854775808 ≤ V ∧ V ≤ 9223372036854775807
def fitV (V : Int) : Int := if inI V then V else 0
def fitB (V : Int) : Bool := decide (inI V)
def fitT (V : Int) : Value := .tuple #[.int .i64 (fitV V), .bool (fitB V)]
theorem narrow_any (V : Int) (w : World) (h0 : -170141183460469231731687303715884105728 ≤ V) (h1 : V ≤ 170141183460469231731687303715884105727) :
    Calls Tryz.prog 87 #[W128 V] w fun e w' => e = .returned (fitT V) ∧ Below w.heap.size w w' := by
  by_cases hf : inI V
  · have hT : Hid (fitT V = .tuple #[.int .i64 V, .bool true]) := by show _ = _; unfold fitT fitV fitB; rw [if_pos hf, decide_eq_true hf]
    have e1 : wrap64 (V % 18446744073709551616) = V := by unfold inI at hf; unfold wrap64; omega
    have HF : Hid (inI V) := hf
    clear hf h0 h1
    unfold W128
    go_enter Tryz.func87, Tryz.ntmps87
    go_wp2
    go_region_held3 (fun w' => w'.cell? ⟨w.heap.size, 0, none⟩ = some (.int .i64 (V / 18446744073709551616)) ∧ w'.cell? ⟨w.heap.size, 1, none⟩ = some (.int .u64 (V % 18446744073709551616))) (simp [go_sem, World.cell?_alloc_past])
      (first | (go_at_call 99; refine (widen_any V _ HF.out.1 HF.out.2).mono ?_; unfold W128; rintro e w2 ⟨rfl, c, rfl⟩))
    go_wp2
    go_ret2
    refine ⟨by rw [hT.out]; rfl, ?_⟩
    exact (((Below.refl _ _).alloc (Nat.le_refl _) _).drew.alloc (by simp) _)
  · have hT : Hid (fitT V = .tuple #[.int .i64 0, .bool false]) := by show _ = _; unfold fitT fitV fitB; rw [if_neg hf, decide_eq_false hf]
    obtain ⟨L, e1⟩ : ∃ L, wrap64 (V % 18446744073709551616) = L := ⟨_, rfl⟩
    have e2 : ¬ V / 18446744073709551616 = L / 18446744073709551616 := by unfold inI at hf; unfold wrap64 at e1; omega
    have HF : Hid (inI L) := by show inI L; unfold inI; unfold wrap64 at e1; omega
    clear hf h0 h1
    unfold W128
    go_enter Tryz.func87, Tryz.ntmps87
    go_wp2
    go_region_held3 (fun w' => w'.cell? ⟨w.heap.size, 0, none⟩ = some (.int .i64 (V / 18446744073709551616)) ∧ w'.cell? ⟨w.heap.size, 1, none⟩ = some (.int .u64 (V % 18446744073709551616))) (simp [go_sem, World.cell?_alloc_past])
      (first | (go_at_call 99; refine (widen_any L _ HF.out.1 HF.out.2).mono ?_; unfold W128; rintro e w2 ⟨rfl, c, rfl⟩))
    go_wp2
    go_ret2
    refine ⟨by rw [hT.out]; rfl, ?_⟩
    exact (((Below.refl _ _).alloc (Nat.le_refl _) _).drew.alloc (by simp) _)
theorem signed_any (hi lo : Nat) (neg : Bool) (V : Int) (w : World) (h : hi < 9223372036854775808) (hl : lo < 18446744073709551616) (hV : V = if neg then -((hi : Int) * 18446744073709551616 + lo) else (hi : Int) * 18446744073709551616 + lo) :
    Calls Tryz.prog 86 #[.int .u64 (hi : Int), .int .u64 (lo : Int), .bool neg] w fun e w' => e = .returned (W128 V) ∧ Below w.heap.size w w' := by
  have h1 : wrap64 (hi : Int) = (hi : Int) := by unfold wrap64; omega
  have HW : Hid (W128 ((hi : Int) * 18446744073709551616 + lo) = .agg #[.int .i64 (hi : Int), .int .u64 (lo : Int)]) := by
    show _ = _
    unfold W128
    rw [show ((hi : Int) * 18446744073709551616 + lo) / 18446744073709551616 = hi from by omega, show ((hi : Int) * 18446744073709551616 + lo) % 18446744073709551616 = lo from by omega]
  cases neg with
  | true =>
    have HV : Hid (V = 0 - ((hi : Int) * 18446744073709551616 + lo)) := by show _ = _; rw [hV, if_pos rfl]; omega
    have HB : Hid (hi < 9223372036854775808 ∧ lo < 18446744073709551616) := ⟨h, hl⟩
    clear hV h hl
    go_enter Tryz.func86, Tryz.ntmps86
    go_wp2_with (go_at_call 103; rw [show (Value.agg #[.int .i64 (hi : Int), .int .u64 (lo : Int)]) = W128 ((hi : Int) * 18446744073709551616 + lo) from HW.out.symm, show (Value.agg #[.int .i64 0, .int .u64 0]) = W128 0 from rfl]; refine (minus_any 0 _ _ (by have := HB.out; omega) (by have := HB.out; omega)).mono ?_; rw [← HV.out]; unfold W128; rintro e w2 ⟨rfl, c1, c2, c3, rfl⟩)
    simp [bodyPost, results, Tryz.results86, go_sem]
    exact ⟨rfl, bel5 _ _ _ _ _ _⟩
  | false =>
    have HV : Hid (V = (hi : Int) * 18446744073709551616 + lo) := by show _ = _; rw [hV]; rfl
    clear hV h hl
    go_enter Tryz.func86, Tryz.ntmps86
    go_wp2
    simp [bodyPost, results, Tryz.results86, go_sem]
    exact ⟨by rw [HV.out]; exact HW.out.symm, bel2 _ _ _⟩
end Go.Proofs.YtblfmfanfpohbaaGreat
