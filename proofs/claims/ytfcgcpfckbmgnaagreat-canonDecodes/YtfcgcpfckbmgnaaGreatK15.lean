/- Own texts, joined: RSum. -/
import Derived.Test.YtfcgcpfckbmgnaaGreatK14
import Derived.Test.YtfcgcpfckbmgnaaGreatK12
import Derived.Deep.RegionWith
namespace Go.Proofs.YtfcgcpfckbmgnaaGreat
open Go.ChangeShapes Go.WideShapes Go.ChangeAt Go.RowKit
theorem cells17s {w : World} {b : Nat} {s : Bool} {d : Nat → Nat} (h : LongAt w b s d) : w.cell? ⟨b, 0, none⟩ = some (.bool s) ∧ w.cell? ⟨b, 1, none⟩ = some (.int .u64 (d 0 : Int)) ∧ w.cell? ⟨b, 2, none⟩ = some (.int .u64 (d 1 : Int)) ∧ w.cell? ⟨b, 3, none⟩ = some (.int .u64 (d 2 : Int)) ∧ w.cell? ⟨b, 4, none⟩ = some (.int .u64 (d 3 : Int)) ∧ w.cell? ⟨b, 5, none⟩ = some (.int .u64 (d 4 : Int)) ∧ w.cell? ⟨b, 6, none⟩ = some (.int .u64 (d 5 : Int)) ∧ w.cell? ⟨b, 7, none⟩ = some (.int .u64 (d 6 : Int)) ∧ w.cell? ⟨b, 8, none⟩ = some (.int .u64 (d 7 : Int)) ∧ w.cell? ⟨b, 9, none⟩ = some (.int .u64 (d 8 : Int)) ∧ w.cell? ⟨b, 10, none⟩ = some (.int .u64 (d 9 : Int)) ∧ w.cell? ⟨b, 11, none⟩ = some (.int .u64 (d 10 : Int)) ∧ w.cell? ⟨b, 12, none⟩ = some (.int .u64 (d 11 : Int)) ∧ w.cell? ⟨b, 13, none⟩ = some (.int .u64 (d 12 : Int)) ∧ w.cell? ⟨b, 14, none⟩ = some (.int .u64 (d 13 : Int)) ∧ w.cell? ⟨b, 15, none⟩ = some (.int .u64 (d 14 : Int)) ∧ w.cell? ⟨b, 16, none⟩ = some (.int .u64 (d 15 : Int)) :=
  ⟨h.sign, h.digit 0 (by omega), h.digit 1 (by omega), h.digit 2 (by omega), h.digit 3 (by omega), h.digit 4 (by omega), h.digit 5 (by omega), h.digit 6 (by omega), h.digit 7 (by omega), h.digit 8 (by omega), h.digit 9 (by omega), h.digit 10 (by omega), h.digit 11 (by omega), h.digit 12 (by omega), h.digit 13 (by omega), h.digit 14 (by omega), h.digit 15 (by omega)⟩
theorem free17 {w : World} {b : Nat} {s : Bool} {d : Nat → Nat} (h : LongAt w b s d) : w.frozen? ⟨b, 0, none⟩ = false ∧ w.frozen? ⟨b, 1, none⟩ = false ∧ w.frozen? ⟨b, 2, none⟩ = false ∧ w.frozen? ⟨b, 3, none⟩ = false ∧ w.frozen? ⟨b, 4, none⟩ = false ∧ w.frozen? ⟨b, 5, none⟩ = false ∧ w.frozen? ⟨b, 6, none⟩ = false ∧ w.frozen? ⟨b, 7, none⟩ = false ∧ w.frozen? ⟨b, 8, none⟩ = false ∧ w.frozen? ⟨b, 9, none⟩ = false ∧ w.frozen? ⟨b, 10, none⟩ = false ∧ w.frozen? ⟨b, 11, none⟩ = false ∧ w.frozen? ⟨b, 12, none⟩ = false ∧ w.frozen? ⟨b, 13, none⟩ = false ∧ w.frozen? ⟨b, 14, none⟩ = false ∧ w.frozen? ⟨b, 15, none⟩ = false ∧ w.frozen? ⟨b, 16, none⟩ = false :=
  ⟨h.free 0, h.free 1, h.free 2, h.free 3, h.free 4, h.free 5, h.free 6, h.free 7, h.free 8, h.free 9, h.free 10, h.free 11, h.free 12, h.free 13, h.free 14, h.free 15, h.free 16⟩
theorem lay2z (w : World) (Z : Array Value) (hZ : LA false (fun _ => 0) = Z) : LongAt ((w.alloc (.cells Z 111)).alloc (.cells Z 111)) w.heap.size false (fun _ => 0) ∧ LongAt ((w.alloc (.cells Z 111)).alloc (.cells Z 111)) (w.heap.size + 1) false (fun _ => 0) ∧ Below w.heap.size w ((w.alloc (.cells Z 111)).alloc (.cells Z 111)) := by
  subst hZ
  refine ⟨?_, ?_, bel2 _ _ _⟩ <;> (unfold LongAt; simp only [World.alloc, Array.getElem?_push, Array.size_push]; simp)
theorem step_load_long {ops : Array Oper} {o : Oper} {a : Act} {w : World} {K : Act → World → Prop} {Q : Exit → Act → World → Prop} {E : Prop} (hg : o.guard = none) (x : Operand) (ho : o.op = .load 111 x)
    {b : Nat} {s : Bool} {d : Nat → Nat} (hL : LongAt w b s d) (hx : a.eval x = .pointer (some ⟨b, 0, none⟩)) (hK : K (a.put o.dst (.agg (LA s d))) w) :
    if Region.wanted o (yielded ops a.tmps) = true then Oper.wp Tryz.prog o a w K Q else E := by
  have hw : Region.wanted o (yielded ops a.tmps) = true := by simp [Region.wanted, hg]
  rw [if_pos hw]
  unfold Oper.wp execOp
  simp only [ho, hx, Sem.run_bind, Sem.run_pure, Result.andThen_ok, hL.load]
  exact hK
theorem step_store_long {ops : Array Oper} {o : Oper} {a : Act} {w : World} {K : Act → World → Prop} {Q : Exit → Act → World → Prop} {E : Prop} (hg : o.guard = none) (x y : Operand) (ho : o.op = .store 111 x y)
    {b : Nat} {s s2 : Bool} {d d2 : Nat → Nat} (hL : LongAt w b s d) (hx : a.eval x = .pointer (some ⟨b, 0, none⟩)) (hy : a.eval y = .agg (LA s2 d2))
    (hK : ∀ w2, LongAt w2 b s2 d2 → (∀ B a, Below B a w → B ≤ b → Below B a w2) → K (a.put o.dst undef) w2) :
    if Region.wanted o (yielded ops a.tmps) = true then Oper.wp Tryz.prog o a w K Q else E := by
  have hw : Region.wanted o (yielded ops a.tmps) = true := by simp [Region.wanted, hg]
  rw [if_pos hw]
  obtain ⟨w2, h1, h2, h3⟩ := hL.store s2 d2
  unfold Oper.wp execOp
  simp only [ho, hx, hy, Sem.run_bind, Sem.run_pure, Result.andThen_ok, h1]
  exact hK w2 h2 h3
theorem nought_sum (l : List Int) : sgn false (V (fun _ => 0) 16) = (l.take 0).sum := by
  rw [V_zero (x := fun _ => 0) (n := 0) 16 (fun _ _ _ => rfl) (by omega)]
  rfl
theorem sum_small (l : List Int) (h : ∀ x ∈ l, inI x) (hl : l.length ≤ maxLen) (k : Nat) : (l.take k).sum.natAbs + 9223372036854775808 < 65536 ^ 16 := by
  have h1 := sum_range l h hl k
  have h2 : (2 : Nat) ^ 128 ≤ 65536 ^ 16 := by decide
  refine Nat.lt_of_lt_of_le ?_ h2
  omega
theorem small_step {S x : Int} {P : Nat} (h : S.natAbs + 9223372036854775808 < P) (hx : inI x) : S.natAbs + x.natAbs < P := by
  unfold inI at hx
  omega
end Go.Proofs.YtfcgcpfckbmgnaaGreat
