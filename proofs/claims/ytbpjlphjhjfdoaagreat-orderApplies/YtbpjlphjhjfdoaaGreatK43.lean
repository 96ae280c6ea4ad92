/- Own texts, joined: Long, Cmp, Fits, Tmath, Omath, Ints. -/
import Derived.Test.YtbpjlphjhjfdoaaGreatK12
import Derived.Test.YtbpjlphjhjfdoaaGreatK00
import Derived.Deep.MidRow
import Derived.BigQuiet
import Derived.Deep.QuietTactic
namespace Go.Proofs.YtbpjlphjhjfdoaaGreat
open Go.ChangeShapes Go.WideShapes Go.ChangeAt Go.RowKit
def LA (b : Bool) (d : Nat → Nat) : Array Value := #[.bool b, .int .u64 (d 0 : Int), .int .u64 (d 1 : Int), .int .u64 (d 2 : Int), .int .u64 (d 3 : Int), .int .u64 (d 4 : Int), .int .u64 (d 5 : Int), .int .u64 (d 6 : Int), .int .u64 (d 7 : Int), .int .u64 (d 8 : Int), .int .u64 (d 9 : Int), .int .u64 (d 10 : Int), .int .u64 (d 11 : Int), .int .u64 (d 12 : Int), .int .u64 (d 13 : Int), .int .u64 (d 14 : Int), .int .u64 (d 15 : Int)]
theorem lt16 {k : Nat} (h : k < 16) : k = 0 ∨ k = 1 ∨ k = 2 ∨ k = 3 ∨ k = 4 ∨ k = 5 ∨ k = 6 ∨ k = 7 ∨ k = 8 ∨ k = 9 ∨ k = 10 ∨ k = 11 ∨ k = 12 ∨ k = 13 ∨ k = 14 ∨ k = 15 := by omega
theorem LA_size (b : Bool) (d : Nat → Nat) : (LA b d).size = 17 := rfl
theorem LA_get (b : Bool) (d : Nat → Nat) (k : Nat) (h : k < 16) : (LA b d)[1 + k]? = some (.int .u64 (d k : Int)) := by
  rcases lt16 h with rfl | rfl | rfl | rfl | rfl | rfl | rfl | rfl | rfl | rfl | rfl | rfl | rfl | rfl | rfl | rfl <;> rfl
def upd (d : Nat → Nat) (k v : Nat) : Nat → Nat := fun i => if i = k then v else d i
theorem LA_set (b : Bool) (d : Nat → Nat) (k v : Nat) (h : k < 16) : (LA b d).setIfInBounds (1 + k) (.int .u64 (v : Int)) = LA b (upd d k v) := by
  rcases lt16 h with rfl | rfl | rfl | rfl | rfl | rfl | rfl | rfl | rfl | rfl | rfl | rfl | rfl | rfl | rfl | rfl <;> rfl
theorem LA_one (b : Bool) (d : Nat → Nat) : (LA b d).all (·.oneCell') = true := by simp [LA, Value.oneCell']
def V (d : Nat → Nat) : Nat → Nat
  | 0 => 0
  | n + 1 => V d n + d n * 65536 ^ n
def Dig (d : Nat → Nat) : Prop := ∀ i, d i < 65536
theorem V_congr (d e : Nat → Nat) (n : Nat) (h : ∀ i, i < n → d i = e i) : V d n = V e n := by
  induction n with
  | zero => rfl
  | succ n ih => rw [V, V, ih fun i hi => h i (by omega), h n (by omega)]
theorem V_lt (d : Nat → Nat) (n : Nat) (h : Dig d) : V d n < 65536 ^ n := by
  induction n with
  | zero => simp [V]
  | succ n ih =>
    rw [V, Nat.pow_succ]
    have h1 : d n * 65536 ^ n ≤ 65535 * 65536 ^ n := Nat.mul_le_mul_right _ (by have := h n; omega)
    omega
theorem V_upd (d : Nat → Nat) (k v : Nat) : V (upd d k v) k = V d k := V_congr _ _ _ fun i hi => by unfold upd; rw [if_neg (by omega)]
theorem V_upd_succ (d : Nat → Nat) (k v : Nat) : V (upd d k v) (k + 1) = V d k + v * 65536 ^ k := by rw [V, V_upd]; unfold upd; rw [if_pos rfl]
def LongAt (w : World) (b : Nat) (s : Bool) (d : Nat → Nat) : Prop := w.heap[b]? = some (.cells (LA s d) 79)
theorem LongAt.lt {w : World} {b : Nat} {s : Bool} {d : Nat → Nat} (h : LongAt w b s d) : b < w.heap.size := by
  by_cases hh : b < w.heap.size
  · exact hh
  · unfold LongAt at h; rw [Array.getElem?_eq_none (by omega)] at h; cases h
theorem LongAt.digit {w : World} {b : Nat} {s : Bool} {d : Nat → Nat} (h : LongAt w b s d) (k : Nat) (hk : k < 16) : w.cell? ⟨b, 1 + k, none⟩ = some (.int .u64 (d k : Int)) := by
  rw [cell_of_row w b (1 + k) _ _ _ h, LA_get s d k hk]
theorem LongAt.sign {w : World} {b : Nat} {s : Bool} {d : Nat → Nat} (h : LongAt w b s d) : w.cell? ⟨b, 0, none⟩ = some (.bool s) := by
  rw [cell_of_row w b 0 _ _ _ h]; rfl
theorem LongAt.keep {B : Nat} {w w' : World} {b : Nat} {s : Bool} {d : Nat → Nat} (h : LongAt w b s d) (hb : Below B w w') (hlt : b < B) : LongAt w' b s d := (hb.block b hlt).trans h
theorem LongAt.free {w : World} {b : Nat} {s : Bool} {d : Nat → Nat} (h : LongAt w b s d) (k : Nat) : w.frozen? ⟨b, k, none⟩ = false := frozen_of_row w b k _ _ h
theorem LongAt.there {w : World} {b : Nat} {s : Bool} {d : Nat → Nat} (h : LongAt w b s d) : w.there b 0 17 := fun j hj => by
  refine ⟨?_, h.free _⟩
  rw [Nat.zero_add, cell_of_row w b j _ _ _ h, Array.getElem?_eq_getElem (by rw [LA_size]; exact hj)]
  rfl
theorem lay4 (w : World) (b c : Bool) (x y : Nat → Nat) : Hid (LongAt ((((w.alloc (.cells (LA b x) 79)).alloc (.cells (LA c y) 79)).alloc (.cells (LA false fun _ => 0) 79)).alloc (.cells (LA b fun _ => 0) 79)) w.heap.size b x ∧ LongAt ((((w.alloc (.cells (LA b x) 79)).alloc (.cells (LA c y) 79)).alloc (.cells (LA false fun _ => 0) 79)).alloc (.cells (LA b fun _ => 0) 79)) (w.heap.size + 1) c y ∧ (∃ d, LongAt ((((w.alloc (.cells (LA b x) 79)).alloc (.cells (LA c y) 79)).alloc (.cells (LA false fun _ => 0) 79)).alloc (.cells (LA b fun _ => 0) 79)) (w.heap.size + 1 + 1) false d) ∧ LongAt ((((w.alloc (.cells (LA b x) 79)).alloc (.cells (LA c y) 79)).alloc (.cells (LA false fun _ => 0) 79)).alloc (.cells (LA b fun _ => 0) 79)) (w.heap.size + 1 + 1 + 1) b (fun _ => 0) ∧ Below w.heap.size w ((((w.alloc (.cells (LA b x) 79)).alloc (.cells (LA c y) 79)).alloc (.cells (LA false fun _ => 0) 79)).alloc (.cells (LA b fun _ => 0) 79))) := by
  refine ⟨?_, ?_, ⟨fun _ => 0, ?_⟩, ?_, bal (bal (bel2 _ _ _) _) _⟩ <;> (unfold LongAt; simp only [World.alloc, Array.getElem?_push, Array.size_push]; first | (simp; done) | (rw [if_neg (by omega), if_neg (by omega)]; simp))
theorem LongAt.put {w : World} {b : Nat} {s : Bool} {d : Nat → Nat} (h : LongAt w b s d) (k v : Nat) (hk : k < 16) : LongAt (w.setCell ⟨b, 1 + k, none⟩ (.int .u64 (v : Int))) b s (upd d k v) := by
  unfold LongAt
  rw [heap_setCell_same w b (1 + k) _ _ _ h, LA_set s d k v hk]
theorem LongAt.other {w : World} {b : Nat} {s : Bool} {d : Nat → Nat} (h : LongAt w b s d) (a : Addr) (v : Value) (hne : b ≠ a.block) : LongAt (w.setCell a v) b s d := (heap_setCell_other w a b v hne).trans h
theorem LongAt.drewN {w : World} {b : Nat} {s : Bool} {d : Nat → Nat} (h : LongAt w b s d) (n : Nat) : LongAt (w.drewN n) b s d := h
theorem Tryz.info28 : (Tryz.prog.info? 79).map (·.size) = some 17 := by kernel_rfl
theorem LongAt.loadVar {w : World} {b : Nat} {s : Bool} {d : Nat → Nat} (h : LongAt w b s d) : (Go.loadVar 79 ⟨b, 0, none⟩).run Tryz.prog w = .ok (.agg (LA s d)) w :=
  run_loadVar_row _ _ _ _ _ _ _ h Tryz.underlying79 rfl Tryz.info28
theorem LongAt.load {w : World} {b : Nat} {s : Bool} {d : Nat → Nat} (h : LongAt w b s d) : (Instr.loadAt 79 (.pointer (some ⟨b, 0, none⟩))).run Tryz.prog w = .ok (.agg (LA s d)) w := by
  simp only [Instr.loadAt, Instr.sureAddr, Sem.run_bind, Sem.run_pure, Result.andThen_ok, h.loadVar]
theorem below_setRowL {B : Nat} {a w : World} (h : Below B a w) (g : Nat) (c : Array Value) (hB : B ≤ g) : Below B a (w.setRow g c) := by
  refine ⟨h.os, h.tape, h.output, ?_, fun k hk => ?_⟩
  · have := h.size; simp [World.setRow]; exact this
  · rw [← h.block k hk]
    simp only [World.setRow, Array.getElem?_modify]
    rw [if_neg (by omega)]
theorem LongAt.store {w : World} {b : Nat} {s : Bool} {d : Nat → Nat} (h : LongAt w b s d) (s2 : Bool) (d2 : Nat → Nat) : ∃ w2, (Instr.storeAt 79 (.pointer (some ⟨b, 0, none⟩)) (.agg (LA s2 d2))).run Tryz.prog w = .ok () w2 ∧ LongAt w2 b s2 d2 ∧ (∀ B a, Below B a w → B ≤ b → Below B a w2) := by
  refine ⟨w.setRow b (LA s2 d2), ?_, ?_, fun B a hb hB => below_setRowL hb b _ hB⟩
  · simp only [Instr.storeAt, Instr.sureAddr, Sem.run_bind, Sem.run_pure, Result.andThen_ok, run_storeVar_row w b 79 79 (LA s d) (LA s2 d2) h Tryz.info28 rfl (LA_one s2 d2)]
  · unfold LongAt at h ⊢
    simp [World.setRow, Array.getElem?_modify, h]
theorem wpList_load_long {ops : Array Oper} {rest : List Oper} {o : Oper} {a : Act} {w : World} {Q : Exit → Act → World → Prop} (hgd : o.guard = none) (x : Operand) (ho : o.op = .load 79 x)
    {b : Nat} {s : Bool} {d : Nat → Nat} (hL : LongAt w b s d) (hx : a.eval x = .pointer (some ⟨b, 0, none⟩)) (h : wpList Tryz.prog ops Q rest (a.put o.dst (.agg (LA s d))) w) : wpList Tryz.prog ops Q (o :: rest) a w :=
  wpList_plain hgd fun _ hK => by
    unfold Oper.wp execOp
    simp only [ho, hx, Sem.run_bind, Sem.run_pure, Result.andThen_ok, hL.load]
    exact hK _ _ h
theorem wpList_store_long {ops : Array Oper} {rest : List Oper} {o : Oper} {a : Act} {w : World} {Q : Exit → Act → World → Prop} (hgd : o.guard = none) (x y : Operand) (ho : o.op = .store 79 x y)
    {b : Nat} {s s2 : Bool} {d d2 : Nat → Nat} (hL : LongAt w b s d) (hx : a.eval x = .pointer (some ⟨b, 0, none⟩)) (hy : a.eval y = .agg (LA s2 d2))
    (h : ∀ w2, LongAt w2 b s2 d2 → (∀ B a, Below B a w → B ≤ b → Below B a w2) → wpList Tryz.prog ops Q rest (a.put o.dst undef) w2) : wpList Tryz.prog ops Q (o :: rest) a w :=
  wpList_plain hgd fun _ hK => by
    obtain ⟨w2, h1, h2, h3⟩ := hL.store s2 d2
    unfold Oper.wp execOp
    simp only [ho, hx, hy, Sem.run_bind, Sem.run_pure, Result.andThen_ok, h1]
    exact hK _ _ (h w2 h2 h3)
theorem results_cell {fn : Func} {t : Tmp} {ty : TypeId} (h : fn.results = #[.cell t ty]) (tmps : Array Value) (w : World) (b : Nat) (v : Value) (ht : tmps.getD t undef = .pointer (some ⟨b, 0, none⟩)) (hl : (Go.loadVar ty ⟨b, 0, none⟩).run Tryz.prog w = .ok v w) :
    (results fn tmps).run Tryz.prog w = .ok v w := by
  simp only [Array.getD_eq_getD_getElem?] at ht
  simp [results, h, ht, asAddr, hl]
theorem Dig.upd {d : Nat → Nat} (h : Dig d) (k v : Nat) (hv : v < 65536) : Dig (upd d k v) := fun i => by
  unfold Go.Proofs.YtbpjlphjhjfdoaaGreat.upd
  split
  · exact hv
  · exact h i
end Go.Proofs.YtbpjlphjhjfdoaaGreat
namespace Go.Proofs.YtbpjlphjhjfdoaaGreat
open Go.ChangeShapes Go.WideShapes Go.ChangeAt Go.RowKit
def cmpV (X Y : Nat) : Int := if X < Y then -1 else if Y < X then 1 else 0
theorem V_lt_at {x y : Nat → Nat} {k : Nat} (hx : Dig x) (h : x k < y k) : V x (k + 1) < V y (k + 1) := by
  rw [V, V]
  have h1 := V_lt x k hx
  have h2 : (x k + 1) * 65536 ^ k ≤ y k * 65536 ^ k := Nat.mul_le_mul_right _ h
  rw [Nat.add_mul, Nat.one_mul] at h2
  omega
theorem V_lt_up {x y : Nat → Nat} {k n : Nat} (h : V x k < V y k) (he : ∀ j, k ≤ j → j < n → x j = y j) (hn : k ≤ n) : V x n < V y n := by
  obtain ⟨m, rfl⟩ : ∃ m, n = k + m := ⟨n - k, by omega⟩
  induction m with
  | zero => exact h
  | succ m ih =>
    have := ih (fun j h1 h2 => he j h1 (by omega)) (by omega)
    rw [← Nat.add_assoc, V, V, he (k + m) (by omega) (by omega)]
    omega
theorem cmp_lt {x y : Nat → Nat} {k : Nat} (hx : Dig x) (hk : k < 16) (he : ∀ j, k < j → j < 16 → x j = y j) (h : x k < y k) : cmpV (V x 16) (V y 16) = -1 := by
  have := V_lt_up (V_lt_at hx h) (fun j h1 h2 => he j (by omega) h2) (show k + 1 ≤ 16 by omega)
  unfold cmpV; rw [if_pos this]
theorem cmp_gt {x y : Nat → Nat} {k : Nat} (hy : Dig y) (hk : k < 16) (he : ∀ j, k < j → j < 16 → x j = y j) (h : y k < x k) : cmpV (V x 16) (V y 16) = 1 := by
  have := V_lt_up (V_lt_at hy h) (fun j h1 h2 => (he j (by omega) h2).symm) (show k + 1 ≤ 16 by omega)
  unfold cmpV; rw [if_neg (by omega), if_pos this]
theorem cmp_eq {x y : Nat → Nat} (he : ∀ j, j < 16 → x j = y j) : cmpV (V x 16) (V y 16) = 0 := by
  rw [V_congr x y 16 he]; unfold cmpV; rw [if_neg (by omega), if_neg (by omega)]
theorem lay2b (w : World) (b c : Bool) (x y : Nat → Nat) : LongAt ((w.alloc (.cells (LA b x) 79)).alloc (.cells (LA c y) 79)) w.heap.size b x ∧ LongAt ((w.alloc (.cells (LA b x) 79)).alloc (.cells (LA c y) 79)) (w.heap.size + 1) c y ∧ Below w.heap.size w ((w.alloc (.cells (LA b x) 79)).alloc (.cells (LA c y) 79)) := by
  refine ⟨?_, ?_, bel2 _ _ _⟩ <;> (unfold LongAt; simp only [World.alloc, Array.getElem?_push, Array.size_push]; simp)
set_option maxRecDepth 20000 in
set_option maxHeartbeats 1000000 in
theorem cmp_any (b c : Bool) (x y : Nat → Nat) (w : World) (hx : Dig x) (hy : Dig y) :
    Calls Tryz.prog 90 #[.agg (LA b x), .agg (LA c y)] w fun e w' => e = .returned (.int .i64 (cmpV (V x 16) (V y 16))) ∧ Below w.heap.size w w' := by
  obtain ⟨X, hX⟩ : ∃ X, LA b x = X := ⟨_, rfl⟩
  obtain ⟨Y, hY⟩ : ∃ Y, LA c y = Y := ⟨_, rfl⟩
  have HX : Hid (_ = _) := hX
  have HY : Hid (_ = _) := hY
  have HD : Hid (Dig x ∧ Dig y) := ⟨hx, hy⟩
  rw [hX, hY]
  have hsx : X.size = 17 := by rw [← hX]; rfl
  have hsy : Y.size = 17 := by rw [← hY]; rfl
  clear hX hY hx hy
  go_enter Tryz.func90, Tryz.ntmps90
  go_wp2
  go_loopw [5] (fun vi wr => ∃ k : Nat, k ≤ 16 ∧ vi = .int .i64 ((k : Int) - 1) ∧ Hid (∀ j, k ≤ j → j < 16 → x j = y j) ∧ Hid (LongAt wr w.heap.size b x ∧ LongAt wr (w.heap.size + 1) c y ∧ Below w.heap.size w wr)) (fun vi _ => (intOf vi + 1).toNat)
  case atStart => exact ⟨16, Nat.le_refl _, rfl, fun j h1 h2 => by omega, by rw [← HX.out, ← HY.out]; exact lay2b w b c x y⟩
  case round =>
    obtain ⟨k, hk, rfl, HI, HL⟩ := hrel
    rcases Nat.eq_zero_or_pos k with rfl | hk0
    · have HE : Hid (_ = _) := cmp_eq (x := x) (y := y) fun j hj => HI.out j (Nat.zero_le _) hj
      go_wp2
      go_ret
      exact ⟨ret_int HE.out.symm, HL.out.2.2⟩
    · obtain ⟨m, rfl⟩ : ∃ m, k = m + 1 := ⟨k - 1, by omega⟩
      have em : ((m + 1 : Nat) : Int) - 1 = (m : Int) := by omega
      rw [em]
      have hm : m < 16 := by omega
      have hcx := HL.out.1.digit m hm
      have hcy := HL.out.2.1.digit m hm
      obtain ⟨xm, exm⟩ : ∃ v, x m = v := ⟨_, rfl⟩
      obtain ⟨ym, eym⟩ : ∃ v, y m = v := ⟨_, rfl⟩
      rw [exm] at hcx
      rw [eym] at hcy
      have HE : Hid (x m = xm ∧ y m = ym) := ⟨exm, eym⟩
      clear exm eym em
      rcases Nat.lt_trichotomy xm ym with hlt | rfl | hgt
      · have HR : Hid (_ = _) := cmp_lt HD.out.1 hm (fun j h1 h2 => HI.out j (by omega) h2) (by rw [HE.out.1, HE.out.2]; exact hlt)
        go_wp2
        go_quiet (fail)
        go_wp2
        go_ret
        exact ⟨ret_int HR.out.symm, below_drewN HL.out.2.2 _⟩
      · go_wp2
        go_quiet (fail)
        go_wp2
        go_quiet (fail)
        go_wp2
        go_round
        case rel =>
          refine ⟨m, by omega, by go_num, fun j h1 h2 => ?_, ?_⟩
          · by_cases hj : j = m
            · subst hj; rw [HE.out.1, HE.out.2]
            · exact HI.out j (by omega) h2
          · obtain ⟨l1, l2, l3⟩ := HL.out
            exact ⟨l1, l2, below_drewN l3 _⟩
        case measure => first | (simp [intOf]; done) | (simp [intOf]; omega)
      · have HR : Hid (_ = _) := cmp_gt HD.out.2 hm (fun j h1 h2 => HI.out j (by omega) h2) (by rw [HE.out.1, HE.out.2]; exact hgt)
        go_wp2
        go_quiet (fail)
        go_wp2
        go_quiet (fail)
        go_wp2
        go_ret
        exact ⟨ret_int HR.out.symm, below_drewN (below_drewN HL.out.2.2 _) _⟩
end Go.Proofs.YtbpjlphjhjfdoaaGreat
namespace Go.Proofs.YtbpjlphjhjfdoaaGreat
open Go.ChangeShapes Go.WideShapes Go.ChangeAt Go.RowKit
theorem V_zero {x : Nat → Nat} {n : Nat} (m : Nat) (h : ∀ i, n ≤ i → i < m → x i = 0) (hm : n ≤ m) : V x m = V x n := by
  obtain ⟨k, rfl⟩ : ∃ k, m = n + k := ⟨m - n, by omega⟩
  induction k with
  | zero => rfl
  | succ k ih => rw [← Nat.add_assoc, V, ih (fun i h1 h2 => h i h1 (by omega)) (by omega), h _ (by omega) (by omega)]; omega
theorem V_mono {x : Nat → Nat} {n m : Nat} (h : n ≤ m) : V x n ≤ V x m := by
  obtain ⟨k, rfl⟩ : ∃ k, m = n + k := ⟨m - n, by omega⟩
  induction k with
  | zero => exact Nat.le_refl _
  | succ k ih => rw [← Nat.add_assoc, V]; have := ih (by omega); omega
theorem V_big {x : Nat → Nat} {k : Nat} (hk : 4 ≤ k) (hk2 : k < 16) (h : x k ≠ 0) : 18446744073709551616 ≤ V x 16 := by
  have h1 : V x (k + 1) ≤ V x 16 := V_mono (by omega)
  rw [V] at h1
  have h2 : 1 * 65536 ^ k ≤ x k * 65536 ^ k := Nat.mul_le_mul_right _ (by omega)
  have h3 : 65536 ^ 4 ≤ 65536 ^ k := Nat.pow_le_pow_right (by omega) hk
  have h4 : (65536 : Nat) ^ 4 = 18446744073709551616 := by decide
  omega
theorem fit_big (s : Bool) (n : Nat) (h : 18446744073709551616 ≤ n) : fitV (sgn s n) = 0 ∧ fitB (sgn s n) = false := by
  have hn : ¬ inI (sgn s n) := by unfold inI sgn; split <;> omega
  unfold fitV fitB
  rw [if_neg hn, decide_eq_false hn]
  exact ⟨rfl, rfl⟩
theorem fit_not (v : Int) (h : ¬ inI v) : fitV v = 0 ∧ fitB v = false := by
  unfold fitV fitB
  rw [if_neg h, decide_eq_false h]
  exact ⟨rfl, rfl⟩
theorem lay1 (w : World) (b : Bool) (x : Nat → Nat) : LongAt (w.alloc (.cells (LA b x) 79)) w.heap.size b x ∧ Below w.heap.size w (w.alloc (.cells (LA b x) 79)) := by
  refine ⟨?_, bal (Below.refl _ _) _⟩
  unfold LongAt; simp only [World.alloc, Array.getElem?_push]; simp
theorem u_bound {u j A B : Nat} (h : u * 65536 ^ (j + 1) + A = B) (hB : B < 18446744073709551616) : u ≤ 281474976710655 := by
  have h1 : u * 65536 ^ 1 ≤ u * 65536 ^ (j + 1) := Nat.mul_le_mul_left _ (Nat.pow_le_pow_right (by omega) (by omega))
  have : u * 65536 ≤ B := by simpa using Nat.le_trans h1 (by omega)
  omega
theorem u_step {u j a A B : Nat} (h : u * 65536 ^ (j + 1) + (A + a * 65536 ^ j) = B) : (u * 65536 + a) * 65536 ^ j + A = B := by
  rw [Nat.pow_succ, Nat.mul_comm (65536 ^ j) 65536, ← Nat.mul_assoc] at h
  rw [Nat.add_mul]
  omega
set_option maxRecDepth 20000 in
set_option maxHeartbeats 2000000 in
theorem lfits_any (s : Bool) (x : Nat → Nat) (w : World) (hx : Dig x) :
    Calls Tryz.prog 73 #[.agg (LA s x)] w fun e w' => e = .returned (.tuple #[.int .i64 (fitV (sgn s (V x 16))), .bool (fitB (sgn s (V x 16)))]) ∧ Below w.heap.size w w' := by
  obtain ⟨X, hX⟩ : ∃ X, LA s x = X := ⟨_, rfl⟩
  have HX : Hid (_ = _) := hX
  have HD : Hid (Dig x) := hx
  rw [hX]
  have hsx : X.size = 17 := by rw [← hX]; rfl
  clear hX hx
  obtain ⟨fv, Ev⟩ : ∃ v, Hid (fitV (sgn s (V x 16)) = v) := ⟨_, rfl⟩
  obtain ⟨fb, Eb⟩ : ∃ v, Hid (fitB (sgn s (V x 16)) = v) := ⟨_, rfl⟩
  rw [Ev.out, Eb.out]
  go_enter Tryz.func73, Tryz.ntmps73
  go_wp2
  go_loopw [4] (fun vi wr => ∃ k : Nat, 4 ≤ k ∧ k ≤ 16 ∧ vi = .int .i64 k ∧ Hid (∀ j, 4 ≤ j → j < k → x j = 0) ∧ Hid (LongAt wr w.heap.size s x ∧ Below w.heap.size w wr)) (fun vi _ => 16 - (intOf vi).toNat)
  case atStart => exact ⟨4, by omega, by omega, rfl, fun j h1 h2 => by omega, by rw [← HX.out]; exact lay1 w s x⟩
  case round =>
    obtain ⟨k, hk4, hk, rfl, HI, HL⟩ := hrel
    by_cases hk16 : k < 16
    · have hcx := HL.out.1.digit k hk16
      obtain ⟨xk, exk⟩ : ∃ v, x k = v := ⟨_, rfl⟩
      rw [exk] at hcx
      have HE : Hid (x k = xk) := exk
      clear exk
      by_cases hz : xk = 0
      · subst hz
        go_wp2
        go_round
        case rel =>
          refine ⟨k + 1, by omega, by omega, by go_num, fun j h1 h2 => ?_, HL.out⟩
          by_cases hj : j = k
          · subst hj; exact HE.out
          · exact HI.out j h1 (by omega)
        case measure => first | (simp [intOf]; done) | (simp [intOf]; omega)
      · have hzb : ((xk : Int) == 0) = false := by simp; omega
        have HB := fit_big s _ (V_big (x := x) hk4 hk16 (by rw [HE.out]; exact hz))
        rw [Ev.out, Eb.out] at HB
        obtain ⟨h1, h2⟩ := HB
        subst h1 h2
        go_wp2
        go_ret2
        exact ⟨rfl, HL.out.2⟩
    · obtain rfl : k = 16 := by omega
      have HV : Hid (V x 16 = V x 4) := V_zero 16 (fun j h1 h2 => HI.out j h1 h2) (by omega)
      have HV4 : Hid (V x 4 < 18446744073709551616) := by show _ < _; have := V_lt x 4 HD.out; rwa [show (65536 : Nat) ^ 4 = 18446744073709551616 from by decide] at this
      have hL1 := HL.out
      have HL1 : Hid (_ ∧ _) := hL1
      clear HI HL hL1
      go_wp2
      go_loop [5, 6] (fun vu vi => ∃ (j : Nat) (u : Int), j ≤ 4 ∧ vi = .int .i64 ((j : Int) - 1) ∧ vu = .int .u64 u ∧ Hid (∃ un : Nat, u = un ∧ un * 65536 ^ j + V x j = V x 4)) (fun _ vi => (intOf vi + 1).toNat)
      case atStart => exact ⟨4, 0, by omega, rfl, rfl, 0, rfl, by omega⟩
      case round =>
        obtain ⟨j, u, hj, rfl, rfl, HU⟩ := hrel
        rcases Nat.eq_zero_or_pos j with rfl | hj0
        · have HU0 : Hid (u = (V x 4 : Nat)) := by
            obtain ⟨un, e1, e2⟩ := HU.out
            show _ = _
            rw [e1, ← e2]
            simp [V]
          have hu0 : 0 ≤ u := by have := HU0.out; omega
          have hu1 : u ≤ 18446744073709551615 := by have := HU0.out; have := HV4.out; omega
          have hc0 := HL1.out.1.sign
          have HF : Hid (sgn s (V x 16) = if s = true then -u else u) := by show _ = _; unfold sgn; rw [HV.out, HU0.out]
          clear HU
          rw [HF.out] at Ev Eb
          have HR : Hid (fitV (if s = true then -u else u) = fv ∧ fitB (if s = true then -u else u) = fb) := ⟨Ev.out, Eb.out⟩
          clear Ev Eb
          cases s with
          | true =>
            by_cases hp : 0 < u
            · by_cases hb : u ≤ 9223372036854775808
              · have h9 := fit_in (-u) ⟨by omega, by omega⟩
                have HR2 : Hid (-u = fv ∧ true = fb) := ⟨h9.1.symm.trans HR.out.1, h9.2.symm.trans HR.out.2⟩
                clear h9
                go_wp2
                go_ret2
                exact ⟨ret_ib (by rw [← HR2.out.1]; omega) HR2.out.2, HL1.out.2⟩
              · have h9 := fit_not (-u) (by unfold inI; omega)
                have HR2 : Hid (0 = fv ∧ false = fb) := ⟨h9.1.symm.trans HR.out.1, h9.2.symm.trans HR.out.2⟩
                clear h9
                go_wp2
                go_ret2
                exact ⟨ret_ib HR2.out.1 HR2.out.2, HL1.out.2⟩
            · obtain rfl : u = 0 := by omega
              have HR2 : Hid (0 = fv ∧ true = fb) := ⟨HR.out.1, HR.out.2⟩
              go_wp2
              go_ret2
              exact ⟨ret_ib HR2.out.1 HR2.out.2, HL1.out.2⟩
          | false =>
            by_cases hb : u ≤ 9223372036854775807
            · have h9 := fit_in u ⟨by omega, by omega⟩
              have HR2 : Hid (u = fv ∧ true = fb) := ⟨h9.1.symm.trans HR.out.1, h9.2.symm.trans HR.out.2⟩
              clear h9
              go_wp2
              go_ret2
              exact ⟨ret_ib HR2.out.1 HR2.out.2, HL1.out.2⟩
            · have h9 := fit_not u (by unfold inI; omega)
              have HR2 : Hid (0 = fv ∧ false = fb) := ⟨h9.1.symm.trans HR.out.1, h9.2.symm.trans HR.out.2⟩
              clear h9
              go_wp2
              go_ret2
              exact ⟨ret_ib HR2.out.1 HR2.out.2, HL1.out.2⟩
        · obtain ⟨m, rfl⟩ : ∃ m, j = m + 1 := ⟨j - 1, by omega⟩
          have em : ((m + 1 : Nat) : Int) - 1 = (m : Int) := by omega
          rw [em]
          have hm : m < 16 := by omega
          have hm4 : (m : Int) < 16 := by omega
          have hcx := HL1.out.1.digit m hm
          have hdx := HD.out m
          obtain ⟨xm, exm⟩ : ∃ v, x m = v := ⟨_, rfl⟩
          rw [exm] at hcx hdx
          have HE : Hid (x m = xm) := exm
          have hub : 0 ≤ u ∧ u ≤ 281474976710655 := by
            obtain ⟨un, e1, e2⟩ := HU.out
            have := u_bound e2 HV4.out
            omega
          obtain ⟨hu0, hu1⟩ := hub
          clear exm em
          go_wp2
          go_round
          case rel =>
            refine ⟨m, _, by omega, by go_num, rfl, ?_⟩
            obtain ⟨un, e1, e2⟩ := HU.out
            rw [V, HE.out] at e2
            exact ⟨un * 65536 + xm, by rw [e1]; omega, u_step e2⟩
          case measure => first | (simp [intOf]; done) | (simp [intOf]; omega)
end Go.Proofs.YtbpjlphjhjfdoaaGreat
namespace Go.Proofs.YtbpjlphjhjfdoaaGreat
namespace Tm
theorem V_upd_any (d : Nat → Nat) (m v n : Nat) (h : m < n) : V (upd d m v) n + d m * 65536 ^ m = V d n + v * 65536 ^ m := by
  obtain ⟨k, rfl⟩ : ∃ k, n = m + 1 + k := ⟨n - m - 1, by omega⟩
  clear h
  induction k with
  | zero => rw [Nat.add_zero, V_upd_succ, V]; omega
  | succ k ih =>
    rw [← Nat.add_assoc, V, V]
    have e : upd d m v (m + 1 + k) = d (m + 1 + k) := by unfold upd; rw [if_neg (by omega)]
    rw [e]
    omega
theorem carry (s P : Nat) : s % 65536 * P + s / 65536 * (P * 65536) = s * P := by
  have e : (s % 65536 + s / 65536 * 65536) * P = s * P := by rw [show s % 65536 + s / 65536 * 65536 = s from by omega]
  rw [Nat.add_mul, Nat.mul_assoc, Nat.mul_comm 65536 P] at e
  exact e
theorem inner {Vz Vz' zm P c p T s : Nat} (hs : s = zm + p + c) (h1 : Vz' + zm * P = Vz + s % 65536 * P) (h : Vz + c * P = T) : Vz' + s / 65536 * (P * 65536) = T + p * P := by
  have h2 := carry s P
  have h3 : s * P = zm * P + p * P + c * P := by rw [hs, Nat.add_mul, Nat.add_mul]
  omega
theorem inner_row {Vz Vz' zm c p R xi yj i j : Nat} {x y : Nat → Nat} (ex : x i = xi) (ey : y j = yj) (ep : p = xi * yj) (h1 : Vz' + zm * 65536 ^ (i + j) = Vz + (zm + p + c) % 65536 * 65536 ^ (i + j)) (h : Vz + c * 65536 ^ (i + j) = R + x i * 65536 ^ i * V y j) :
    Vz' + (zm + p + c) / 65536 * 65536 ^ (i + (j + 1)) = R + x i * 65536 ^ i * V y (j + 1) := by
  have h2 := inner rfl h1 h
  rw [← Nat.add_assoc, Nat.pow_succ, h2]
  show _ = R + x i * 65536 ^ i * (V y j + y j * 65536 ^ j)
  rw [Nat.mul_add, ep, ← ex, ← ey, Nat.pow_add, Nat.add_assoc]
  congr 2
  rw [Nat.mul_assoc, Nat.mul_assoc, Nat.mul_left_comm (y j)]
theorem carry_row {Vz Vz' zk c T k : Nat} (h1 : Vz' + zk * 65536 ^ k = Vz + (zk + c) % 65536 * 65536 ^ k) (h : Vz + c * 65536 ^ k = T) : Vz' + (zk + c) / 65536 * 65536 ^ (k + 1) = T := by
  have h2 := inner (p := 0) (s := zk + c) (by omega) h1 h
  rw [Nat.pow_succ, h2]; omega
theorem drop_nought {A T P : Nat} (h : A + 0 * P = T) : A = T := by omega
theorem row {A X Bi y j Vj : Nat} (h : A = X) : A + Bi * y * 65536 ^ j + Bi * Vj = X + Bi * (Vj + y * 65536 ^ j) := by
  rw [h, Nat.mul_add, Nat.mul_assoc]; omega
theorem low {d : Nat → Nat} (h : V d 16 < 65536 ^ 8) : V d 16 = V d 8 := by
  refine V_zero 16 (fun i h1 h2 => ?_) (by omega)
  by_cases hz : d i = 0
  · exact hz
  · exfalso
    have a : V d (i + 1) ≤ V d 16 := V_mono (by omega)
    rw [V] at a
    have b : 1 * 65536 ^ i ≤ d i * 65536 ^ i := Nat.mul_le_mul_right _ (by omega)
    have c : (65536 : Nat) ^ 8 ≤ 65536 ^ i := Nat.pow_le_pow_right (by omega) h1
    exact Nat.lt_irrefl _ (Nat.lt_of_le_of_lt (Nat.le_trans c (Nat.le_trans (by rw [Nat.one_mul] at b; exact b) (Nat.le_trans (Nat.le_add_left _ _) a))) h)
theorem prod_lt {x y : Nat → Nat} {i : Nat} (hx : Dig x) (hy : Dig y) (hi : i ≤ 8) : V x i * V y 8 < 65536 ^ 16 := by
  have a := V_lt x i hx
  have b := V_lt y 8 hy
  have c : (65536 : Nat) ^ i ≤ 65536 ^ 8 := Nat.pow_le_pow_right (by omega) hi
  have d : V x i * V y 8 ≤ V x i * 65536 ^ 8 := Nat.mul_le_mul_left _ (Nat.le_of_lt b)
  have e : V x i * 65536 ^ 8 < 65536 ^ 8 * 65536 ^ 8 := Nat.mul_lt_mul_of_pos_right (Nat.lt_of_lt_of_le a c) (Nat.pow_pos (by omega))
  rw [← Nat.pow_add] at e
  exact Nat.lt_of_le_of_lt d e
theorem next_row (x y : Nat → Nat) (i : Nat) : V x i * V y 8 + x i * 65536 ^ i * V y 8 = V x (i + 1) * V y 8 := by
  show _ = (V x i + x i * 65536 ^ i) * V y 8
  rw [Nat.add_mul]
theorem v_nought {x0 : Nat → Nat} (y : Nat → Nat) : V (fun _ => 0) 16 = V x0 0 * V y 8 := by
  rw [V_zero (x := fun _ => 0) (n := 0) 16 (fun _ _ _ => rfl) (by omega)]
  show 0 = 0 * _
  rw [Nat.zero_mul]
theorem begin_row {A T P : Nat} {R : Nat} (h : A = T) : A + 0 * P = T + R * 0 := by omega
theorem no_carry {c A T : Nat} (h : A + c * 65536 ^ 16 = T) (hT : T < 65536 ^ 16) : c = 0 := by
  rcases Nat.eq_zero_or_pos c with h0 | h0
  · exact h0
  · exfalso
    have : 1 * 65536 ^ 16 ≤ c * 65536 ^ 16 := Nat.mul_le_mul_right _ h0
    rw [Nat.one_mul] at this
    exact Nat.lt_irrefl _ (Nat.lt_of_le_of_lt (Nat.le_trans this (Nat.le_trans (Nat.le_add_left _ _) (Nat.le_of_eq h))) hT)
end Tm
end Go.Proofs.YtbpjlphjhjfdoaaGreat
namespace Go.Proofs.YtbpjlphjhjfdoaaGreat
namespace Om
theorem split (d : Nat → Nat) (m n : Nat) (h : m < n) : ∃ t, V d n = V d m + d m * 65536 ^ m + 65536 ^ (m + 1) * t := by
  obtain ⟨k, rfl⟩ : ∃ k, n = m + 1 + k := ⟨n - m - 1, by omega⟩
  clear h
  induction k with
  | zero => exact ⟨0, by rw [Nat.add_zero, V, Nat.mul_zero, Nat.add_zero]⟩
  | succ k ih =>
    obtain ⟨t, ht⟩ := ih
    refine ⟨t + d (m + 1 + k) * 65536 ^ k, ?_⟩
    rw [← Nat.add_assoc, V, ht, Nat.mul_add, Nat.pow_add 65536 (m + 1) k, Nat.mul_left_comm]
    omega
theorem over_div {low P x t : Nat} (hl : low < P) : (low + x * P + P * 65536 * t) / P = x + 65536 * t := by
  have hP : 0 < P := by omega
  rw [show low + x * P + P * 65536 * t = low + P * (x + 65536 * t) from by rw [Nat.mul_add, Nat.mul_comm x P, Nat.mul_assoc]; omega]
  rw [Nat.add_mul_div_left _ _ hP, Nat.div_eq_of_lt hl, Nat.zero_add]
theorem high (d : Nat → Nat) (m n : Nat) (hd : Dig d) (h : m < n) : ∃ t, V d n / 65536 ^ m = d m + 65536 * t := by
  obtain ⟨t, ht⟩ := split d m n h
  refine ⟨t, ?_⟩
  rw [ht, Nat.pow_succ]
  exact over_div (V_lt d m hd)
theorem pow16 (m : Nat) : (2 : Nat) ^ (16 * m) = 65536 ^ m := by rw [Nat.pow_mul]
theorem part (x t e : Nat) (he : e < 16) : (x + 65536 * t) / 2 ^ e % 2 = x / 2 ^ e % 2 := by
  obtain ⟨f, hf⟩ : ∃ f, e + (f + 1) = 16 := ⟨15 - e, by omega⟩
  have h1 : 65536 * t = 2 ^ e * (2 * (2 ^ f * t)) := by
    rw [show (65536 : Nat) = 2 ^ (e + (f + 1)) from by rw [hf], Nat.pow_add, Nat.pow_succ, Nat.mul_assoc, Nat.mul_assoc, Nat.mul_left_comm (2 ^ f)]
  rw [h1, Nat.add_mul_div_left _ _ (Nat.pow_pos (by omega))]
  omega
theorem bit (d : Nat → Nat) (m e n : Nat) (hd : Dig d) (h : m < n) (he : e < 16) : V d n / 2 ^ (16 * m + e) % 2 = d m / 2 ^ e % 2 := by
  obtain ⟨t, ht⟩ := high d m n hd h
  rw [Nat.pow_add, pow16, ← Nat.div_div_eq_div_mul, ht]
  exact part _ _ _ he
theorem step {A Q B r b : Nat} (h : A / 2 ^ (b + 1) = Q * B + r) : A / 2 ^ b = 2 * Q * B + (2 * r + A / 2 ^ b % 2) := by
  rw [Nat.pow_succ, ← Nat.div_div_eq_div_mul] at h
  have := Nat.div_add_mod (A / 2 ^ b) 2
  rw [h] at this
  rw [Nat.mul_add, ← Nat.mul_assoc] at this
  omega
theorem room {q : Nat → Nat} {Q m e : Nat} (hd : Dig q) (hm : m < 16) (he : e < 16) (h : V q 16 = Q * 2 ^ (16 * m + e + 1)) : q m + 2 ^ e < 65536 := by
  obtain ⟨t, ht⟩ := high q m 16 hd hm
  have h1 : V q 16 / 65536 ^ m = Q * 2 ^ (e + 1) := by
    rw [h, Nat.add_assoc, Nat.pow_add, pow16, Nat.mul_left_comm, Nat.mul_comm (65536 ^ m), Nat.mul_div_cancel _ (Nat.pow_pos (by omega))]
  rw [h1] at ht
  obtain ⟨f, hf⟩ : ∃ f, (e + 1) + f = 16 := ⟨15 - e, by omega⟩
  have h2 : 65536 = 2 ^ (e + 1) * 2 ^ f := by rw [← Nat.pow_add, hf]
  have h3 : 2 ^ (e + 1) ∣ q m := by
    have a : 2 ^ (e + 1) ∣ q m + 65536 * t := ⟨Q, by rw [← ht, Nat.mul_comm]⟩
    have b : 2 ^ (e + 1) ∣ 65536 * t := ⟨2 ^ f * t, by rw [← Nat.mul_assoc, ← h2]⟩
    exact (Nat.dvd_add_left b).1 a
  obtain ⟨c, hc⟩ := h3
  have h4 := hd m
  have h5 : c < 2 ^ f := by
    rw [hc] at h4
    exact Nat.lt_of_mul_lt_mul_left (Nat.lt_of_lt_of_eq h4 h2)
  have h6 : 2 ^ (e + 1) * (c + 1) ≤ 2 ^ (e + 1) * 2 ^ f := Nat.mul_le_mul_left _ h5
  rw [← h2, Nat.mul_add, Nat.mul_one, ← hc, Nat.pow_succ] at h6
  have h7 : 0 < 2 ^ e := Nat.pow_pos (by omega)
  omega
theorem even {d : Nat → Nat} {R : Nat} (h : V d 16 = 2 * R) : d 0 % 2 = 0 := by
  obtain ⟨t, ht⟩ := split d 0 16 (by omega)
  have h0 : V d 0 = 0 := rfl
  rw [h, h0] at ht
  simp only [Nat.pow_zero, Nat.zero_add, Nat.pow_one] at ht
  omega
theorem low_bit {d : Nat → Nat} {R β : Nat} (hd : Dig d) (h : V d 16 = 2 * R) (hb : β < 2) : d 0 + β < 65536 ∧ V (upd d 0 (d 0 + β)) 16 = 2 * R + β := by
  have h1 := even h
  have h2 := hd 0
  refine ⟨by omega, ?_⟩
  have h3 := Tm.V_upd_any d 0 (d 0 + β) 16 (by omega)
  rw [h, Nat.pow_zero, Nat.mul_one, Nat.mul_one] at h3
  omega
theorem set_bit {q : Nat → Nat} {Q m e : Nat} (hm : m < 16) (h : V q 16 = Q * 2 ^ (16 * m + e + 1)) : V (upd q m (q m + 2 ^ e)) 16 = (2 * Q + 1) * 2 ^ (16 * m + e) := by
  have h3 := Tm.V_upd_any q m (q m + 2 ^ e) 16 hm
  have h4 : 2 ^ e * 65536 ^ m = 2 ^ (16 * m + e) := by rw [Nat.pow_add, pow16, Nat.mul_comm]
  rw [h, Nat.add_mul (q m) (2 ^ e), Nat.pow_succ 2 (16 * m + e), h4] at h3
  have h5 : Q * (2 ^ (16 * m + e) * 2) = 2 * Q * 2 ^ (16 * m + e) := by rw [Nat.mul_comm (2 ^ (16 * m + e)) 2, ← Nat.mul_assoc, Nat.mul_comm Q 2]
  rw [h5] at h3
  rw [Nat.add_mul, Nat.one_mul]
  omega
theorem no_bit {q : Nat → Nat} {Q m e : Nat} (h : V q 16 = Q * 2 ^ (16 * m + e + 1)) : V q 16 = 2 * Q * 2 ^ (16 * m + e) := by
  rw [h, Nat.pow_succ, Nat.mul_comm 2 Q, Nat.mul_assoc, Nat.mul_comm 2]
end Om
end Go.Proofs.YtbpjlphjhjfdoaaGreat
namespace Go.Proofs.YtbpjlphjhjfdoaaGreat
open Go.ChangeShapes Go.WideShapes Go.ChangeAt Go.RowKit
def Ints (w : World) (a : Option Addr) (l : List Int) : Prop :=
  (∀ x ∈ l, inI x) ∧ (l = [] ∨ ∃ b off, a = some ⟨b, off, none⟩ ∧ b < w.heap.size ∧ ∀ i, i < l.length → w.cell? ⟨b, off + i, none⟩ = some (.int .i64 (l.getD i 0)))
theorem Ints.keep {w w' : World} {a : Option Addr} {l : List Int} (h : Ints w a l) (hb : Below w.heap.size w w') : Ints w' a l := by
  refine ⟨h.1, ?_⟩
  rcases h.2 with h | ⟨b, off, rfl, hlt, hc⟩
  · exact .inl h
  · exact .inr ⟨b, off, rfl, Nat.lt_of_lt_of_le hlt hb.size, fun i hi => (hb.cell (p := ⟨b, off + i, none⟩) hlt).trans (hc i hi)⟩
theorem row_ints (w : World) (x : Addr) (zs : List Int) (len : Nat) (hl : len ≤ zs.length)
    (hc : ∀ i, i < zs.length → w.cell? (x.add i) = some (.int .i64 (zs.getD i 0))) (hw : ∀ n ∈ zs, (Lit.int .i64 n).wf = true) :
    ∃ l : List Int, l.length = len ∧ (∀ x ∈ l, inI x) ∧ (l = [] ∨ ∃ b off, some x = some (⟨b, off, none⟩ : Addr) ∧ b < w.heap.size ∧ ∀ i, i < l.length → w.cell? ⟨b, off + i, none⟩ = some (.int .i64 (l.getD i 0))) := by
  refine ⟨zs.take len, by simp; omega, fun y hy => wf_i64 _ (hw _ (List.mem_of_mem_take hy)), ?_⟩
  by_cases hz : len = 0
  · left; subst hz; simp
  · right
    obtain ⟨b, off, spot⟩ := x
    have hc0 := hc 0 (by omega)
    have hspot : spot = none := by simpa [Addr.add] using World.cell?_spot hc0
    subst hspot
    refine ⟨b, off, rfl, World.block_lt_of_cell? _ _ hc0, fun i hi => ?_⟩
    have hi2 : i < zs.length := by simp at hi; omega
    have hi3 : i < len := by simp at hi; omega
    have := hc i hi2
    rw [show (⟨b, off, none⟩ : Addr).add i = ⟨b, off + i, none⟩ from by simp [Addr.add]] at this
    rw [this]
    simp [List.getD_eq_getElem?_getD, hi2, hi3]
def BI (l : List Int) : List Value := l.map fun n => Value.int .i64 n
theorem BI_append (l m : List Int) : BI (l ++ m) = BI l ++ BI m := by simp [BI]
theorem BI_get (l : List Int) (i : Nat) (h : i < l.length) : (BI l)[i]? = some (.int .i64 (l.getD i 0)) := by simp [BI, h]
theorem BI_one (m : List Int) : ∀ u ∈ BI m, u.oneCell' = true := by
  intro u hu
  simp only [BI, List.mem_map] at hu
  obtain ⟨n, _, rfl⟩ := hu
  rfl
theorem BI_length (m : List Int) : (BI m).length = m.length * 1 := by simp [BI]
def OwnI (w : World) (base : Nat) (v : Value) (l : List Int) : Prop := (∀ x ∈ l, inI x) ∧ w.ownsRow base 2 1 v l.length (BI l)
theorem OwnI.shape {w : World} {base : Nat} {v : Value} {l : List Int} (h : OwnI w base v l) : ∃ a cap, v = .slice a l.length cap ∧ l.length ≤ cap ∧ cap ≤ maxLen ∧ Ints w a l := by
  obtain ⟨h0, h1, h2⟩ := h
  rcases h2 with ⟨rfl, hn⟩ | ⟨g, cap, cur, rfl, hb, hg, hnc, hcm, hcs, htake⟩
  · have : l = [] := List.length_eq_zero_iff.1 hn
    subst this
    exact ⟨none, 0, rfl, Nat.le_refl _, by simp, h0, .inl rfl⟩
  · have hlt : g < w.heap.size := by
      by_cases hh : g < w.heap.size
      · exact hh
      · rw [Array.getElem?_eq_none (by omega)] at hg; cases hg
    have ho : w.ownsRow base 2 1 (.slice (some ⟨g, 0, none⟩) l.length cap) l.length (BI l) := ⟨h1, .inr ⟨g, cap, cur, rfl, hb, hg, hnc, hcm, hcs, htake⟩⟩
    refine ⟨some ⟨g, 0, none⟩, cap, rfl, hnc, hcm, h0, .inr ⟨g, 0, rfl, hlt, fun i hi => ?_⟩⟩
    rw [Nat.zero_add, ho.cellAt i (by omega), BI_get l i hi]
theorem ints_cells {w : World} {x : Addr} {m : List Int} (h : Ints w (some x) m) : ∀ j u, (BI m)[j]? = some u → w.cell? (x.add j) = some u := by
  intro j u hj
  have hlt : j < m.length := by
    by_cases hh : j < m.length
    · exact hh
    · rw [List.getElem?_eq_none (by simp [BI]; omega)] at hj; cases hj
  rw [BI_get m j hlt] at hj
  rcases h.2 with rfl | ⟨b, off, hx, _, hc⟩
  · simp at hlt
  · cases hx
    rw [← hj, show (⟨b, off, none⟩ : Addr).add j = ⟨b, off + j, none⟩ from by simp [Addr.add]]
    exact hc j hlt
theorem ints_lit (w : World) (l : List Int) (h : ∀ x ∈ l, inI x) : Ints (w.alloc (.cells (BI l).toArray 2)) (some ⟨w.heap.size, 0, none⟩) l := by
  refine ⟨h, .inr ⟨w.heap.size, 0, rfl, by simp, fun i hi => ?_⟩⟩
  rw [Nat.zero_add]
  have hc := cell_of_row (w.alloc (.cells (BI l).toArray 2)) w.heap.size i (BI l).toArray 2 (0, 0) (heap_alloc_new w _)
  rw [hc]
  simpa using BI_get l i hi
theorem Tryz.infoI : (Tryz.prog.info? 2).map (fun i => (i.zero, i.size, i.bytes)) = some (some (.int .i64 0), 1, 8) := by kernel_rfl
theorem sum_bound (l : List Int) (h : ∀ x ∈ l, inI x) : -9223372036854775808 * (l.length : Int) ≤ l.sum ∧ l.sum ≤ 9223372036854775808 * (l.length : Int) := by
  induction l with
  | nil => simp
  | cons x r ih =>
    have h1 := ih fun y hy => h y (List.mem_cons_of_mem _ hy)
    have h2 := h x (List.mem_cons_self ..)
    unfold inI at h2
    rw [List.sum_cons, List.length_cons]
    omega
theorem sum_range (l : List Int) (h : ∀ x ∈ l, inI x) (hl : l.length ≤ maxLen) (k : Nat) : -170141183460469231731687303715884105728 ≤ (l.take k).sum ∧ (l.take k).sum ≤ 170141183460469231731687303715884105727 := by
  have h1 := sum_bound (l.take k) fun y hy => h y (List.mem_of_mem_take hy)
  have h2 : (l.take k).length ≤ l.length := by rw [List.length_take]; omega
  unfold maxLen at hl
  omega
theorem sum_step (l : List Int) (k : Nat) (h : k < l.length) : (l.take (k + 1)).sum = (l.take k).sum + l.getD k 0 := by
  rw [List.take_add_one, List.sum_append, List.getD_eq_getElem?_getD, List.getElem?_eq_getElem h]
  simp
structure WideAt (w : World) (b : Nat) (S : Int) : Prop where
  c0 : w.cell? ⟨b, 0, none⟩ = some (.int .i64 (S / 18446744073709551616))
  c1 : w.cell? ⟨b, 1, none⟩ = some (.int .u64 (S % 18446744073709551616))
  f0 : w.frozen? ⟨b, 0, none⟩ = false
  f1 : w.frozen? ⟨b, 1, none⟩ = false
theorem WideAt.lt {w : World} {b : Nat} {S : Int} (h : WideAt w b S) : b < w.heap.size := World.block_lt_of_cell? _ _ h.c0
theorem WideAt.keep {w w' : World} {b : Nat} {S : Int} (h : WideAt w b S) (hb : Below w.heap.size w w') : WideAt w' b S :=
  ⟨(hb.cell (p := ⟨b, 0, none⟩) h.lt).trans h.c0, (hb.cell (p := ⟨b, 1, none⟩) h.lt).trans h.c1, (hb.frozen (p := ⟨b, 0, none⟩) h.lt).trans h.f0, (hb.frozen (p := ⟨b, 1, none⟩) h.lt).trans h.f1⟩
theorem WideAt.store {w : World} {b : Nat} {S : Int} (h : WideAt w b S) (T : Int) : WideAt ((w.setCell ⟨b, 0, none⟩ (.int .i64 (T / 18446744073709551616))).setCell ⟨b, 1, none⟩ (.int .u64 (T % 18446744073709551616))) b T := by
  have e : (⟨b, 1, none⟩ : Addr) ≠ ⟨b, 0, none⟩ := by simp
  refine ⟨?_, ?_, ?_, ?_⟩
  · rw [World.cell?_setCell_other _ _ _ _ e]; exact World.cell?_setCell_same _ _ _ h.c0
  · exact World.cell?_setCell_same _ _ _ (u := .int .u64 (S % 18446744073709551616)) (by rw [World.cell?_setCell_other _ _ _ _ e.symm]; exact h.c1)
  · rw [World.frozen?_setCell, World.frozen?_setCell]; exact h.f0
  · rw [World.frozen?_setCell, World.frozen?_setCell]; exact h.f1
theorem widen_b (a : Int) (w : World) (h : inI a) : Calls Tryz.prog 103 #[.int .i64 a] w fun e w' => e = .returned (W128 a) ∧ Below w.heap.size w w' := by
  refine (widen_any a w h.1 h.2).mono ?_
  rintro e w' ⟨rfl, c, rfl⟩
  exact ⟨rfl, bal (Below.refl _ _) _⟩
end Go.Proofs.YtbpjlphjhjfdoaaGreat
