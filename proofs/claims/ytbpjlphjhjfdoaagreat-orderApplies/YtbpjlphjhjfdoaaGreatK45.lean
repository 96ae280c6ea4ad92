/- Own texts, joined: Of, Plus, Times. -/
import Derived.Test.YtbpjlphjhjfdoaaGreatK43
import Derived.Test.YtbpjlphjhjfdoaaGreatK44
import Derived.Deep.RegionWith
namespace Go.Proofs.YtbpjlphjhjfdoaaGreat
open Go.ChangeShapes Go.WideShapes Go.ChangeAt Go.RowKit
theorem lay2 (w : World) (c : Bool) : LongAt ((w.alloc (.cells (LA false fun _ => 0) 79)).alloc (.cells (LA c fun _ => 0) 79)) w.heap.size false (fun _ => 0) ∧ LongAt ((w.alloc (.cells (LA false fun _ => 0) 79)).alloc (.cells (LA c fun _ => 0) 79)) (w.heap.size + 1) c (fun _ => 0) ∧ Below w.heap.size w ((w.alloc (.cells (LA false fun _ => 0) 79)).alloc (.cells (LA c fun _ => 0) 79)) := by
  refine ⟨?_, ?_, bel2 _ _ _⟩ <;> (unfold LongAt; simp only [World.alloc, Array.getElem?_push, Array.size_push]; simp)
theorem of_step {u U Z P : Nat} (h : Z + u * P = U) : Z + u % 65536 * P + u / 65536 * (P * 65536) = U := by
  have e2 : (u % 65536 + u / 65536 * 65536) * P = u * P := by rw [show u % 65536 + u / 65536 * 65536 = u from by omega]
  rw [Nat.add_mul, Nat.mul_assoc, Nat.mul_comm 65536 P] at e2
  omega
theorem of_begin (u : Nat) : V (fun _ => 0) 0 + u * 65536 ^ 0 = u := by show 0 + u * 1 = u; omega
theorem of_end {v u Z P : Nat} (h : Z + v * P = u) (hu : u < P) : Z = u := by
  rcases Nat.eq_zero_or_pos v with rfl | hv
  · omega
  · have : 1 * P ≤ v * P := Nat.mul_le_mul_right _ hv
    omega
theorem V_top {z : Nat → Nat} {n : Nat} (m : Nat) (h : ∀ i, n ≤ i → z i = 0) (hm : n ≤ m) : V z m = V z n := by
  obtain ⟨k, rfl⟩ : ∃ k, m = n + k := ⟨m - n, by omega⟩
  induction k with
  | zero => rfl
  | succ k ih => rw [← Nat.add_assoc, V, ih (by omega), h _ (by omega)]; omega
set_option maxRecDepth 20000 in
set_option maxHeartbeats 1000000 in
theorem of_walk (a : Int) (s : Bool) (u : Nat) (w : World) (h0 : -9223372036854775808 ≤ a) (h1 : a ≤ 9223372036854775807) (hu : Hid (u = a.natAbs)) (hs : (a < 0 ∧ s = true) ∨ (0 ≤ a ∧ s = false)) :
    Calls Tryz.prog 72 #[.int .i64 a] w fun e w' => ∃ z, e = .returned (.agg (LA s z)) ∧ Dig z ∧ V z 16 = u ∧ Below w.heap.size w w' := by
  have hu9 : u < 18446744073709551616 := by have := hu.out; omega
  rcases hs with ⟨ha, rfl⟩ | ⟨ha, rfl⟩
  · go_enter Tryz.func72, Tryz.ntmps72
    go_wp2
    go_loopw [4, 5] (fun vu vi wr => ∃ (k v : Nat) (z : Nat → Nat), k ≤ 4 ∧ vi = .int .i64 k ∧ vu = .int .u64 v ∧ v < 18446744073709551616 ∧ Hid (Dig z ∧ V z k + v * 65536 ^ k = u ∧ ∀ i, k ≤ i → z i = 0) ∧ Hid (LongAt wr w.heap.size false (fun _ => 0) ∧ LongAt wr (w.heap.size + 1) true z ∧ Below w.heap.size w wr)) (fun _ vi _ => 4 - (intOf vi).toNat)
    case atStart => exact ⟨0, u, fun _ => 0, Nat.zero_le _, rfl, congrArg _ (by have := hu.out; omega), hu9, ⟨fun _ => by simp, of_begin u, fun _ _ => rfl⟩, lay2 w true⟩
    case round =>
      obtain ⟨k, v, z, hk, rfl, rfl, hv, HI, HL⟩ := hrel
      by_cases hk4 : k < 4
      · have hcz := HL.out.2.1.digit k (by omega)
        have hfz := HL.out.2.1.free (1 + k)
        go_wp2
        go_round
        case rel =>
          obtain ⟨i1, i2, i3⟩ := HI.out
          obtain ⟨l1, l2, l3⟩ := HL.out
          refine ⟨k + 1, v / 65536, upd z k (v % 65536), by omega, by go_num, ?_, by omega, ⟨i1.upd _ _ (by omega), ?_, ?_⟩, ⟨?_, ?_, ?_⟩⟩
          · exact congrArg _ (by omega)
          · rw [V_upd_succ, Nat.pow_succ]; exact of_step i2
          · intro i hi; unfold upd; rw [if_neg (by omega)]; exact i3 i (by omega)
          · exact l1.other _ _ (by simp)
          · exact l2.put k (v % 65536) (by omega)
          · exact l3.setCell (by simp) _
        case measure => first | (simp [intOf]; done) | (simp [intOf]; omega)
      · obtain rfl : k = 4 := by omega
        have HZ : Hid (Dig z ∧ V z 16 = u) := by
          obtain ⟨i1, i2, i3⟩ := HI.out
          exact ⟨i1, by rw [V_top 16 i3 (by omega)]; exact of_end i2 hu9⟩
        go_wp2_with (first
          | ((with_reducible refine guard_load 79 ?_); refine wpList_load_long rfl _ rfl HL.out.2.1 rfl ?_)
          | ((with_reducible refine guard_store 79 ?_); refine wpList_store_long rfl _ _ rfl HL.out.1 rfl rfl ?_; intro w2 hL2 hB2))
        refine bodyPost_ret (results_cell rfl _ _ _ _ rfl hL2.loadVar) rfl ?_
        exact ⟨z, rfl, HZ.out.1, HZ.out.2, hB2 _ _ HL.out.2.2 (by omega)⟩
  · have e1 : (u : Int) = a := by have := hu.out; omega
    go_enter Tryz.func72, Tryz.ntmps72
    go_wp2
    go_loopw [4, 5] (fun vu vi wr => ∃ (k v : Nat) (z : Nat → Nat), k ≤ 4 ∧ vi = .int .i64 k ∧ vu = .int .u64 v ∧ v < 18446744073709551616 ∧ Hid (Dig z ∧ V z k + v * 65536 ^ k = u ∧ ∀ i, k ≤ i → z i = 0) ∧ Hid (LongAt wr w.heap.size false (fun _ => 0) ∧ LongAt wr (w.heap.size + 1) false z ∧ Below w.heap.size w wr)) (fun _ vi _ => 4 - (intOf vi).toNat)
    case atStart => exact ⟨0, u, fun _ => 0, Nat.zero_le _, rfl, by rw [e1], hu9, ⟨fun _ => by simp, of_begin u, fun _ _ => rfl⟩, lay2 w false⟩
    case round =>
      obtain ⟨k, v, z, hk, rfl, rfl, hv, HI, HL⟩ := hrel
      by_cases hk4 : k < 4
      · have hcz := HL.out.2.1.digit k (by omega)
        have hfz := HL.out.2.1.free (1 + k)
        go_wp2
        go_round
        case rel =>
          obtain ⟨i1, i2, i3⟩ := HI.out
          obtain ⟨l1, l2, l3⟩ := HL.out
          refine ⟨k + 1, v / 65536, upd z k (v % 65536), by omega, by go_num, ?_, by omega, ⟨i1.upd _ _ (by omega), ?_, ?_⟩, ⟨?_, ?_, ?_⟩⟩
          · exact congrArg _ (by omega)
          · rw [V_upd_succ, Nat.pow_succ]; exact of_step i2
          · intro i hi; unfold upd; rw [if_neg (by omega)]; exact i3 i (by omega)
          · exact l1.other _ _ (by simp)
          · exact l2.put k (v % 65536) (by omega)
          · exact l3.setCell (by simp) _
        case measure => first | (simp [intOf]; done) | (simp [intOf]; omega)
      · obtain rfl : k = 4 := by omega
        have HZ : Hid (Dig z ∧ V z 16 = u) := by
          obtain ⟨i1, i2, i3⟩ := HI.out
          exact ⟨i1, by rw [V_top 16 i3 (by omega)]; exact of_end i2 hu9⟩
        go_wp2_with (first
          | ((with_reducible refine guard_load 79 ?_); refine wpList_load_long rfl _ rfl HL.out.2.1 rfl ?_)
          | ((with_reducible refine guard_store 79 ?_); refine wpList_store_long rfl _ _ rfl HL.out.1 rfl rfl ?_; intro w2 hL2 hB2))
        refine bodyPost_ret (results_cell rfl _ _ _ _ rfl hL2.loadVar) rfl ?_
        exact ⟨z, rfl, HZ.out.1, HZ.out.2, hB2 _ _ HL.out.2.2 (by omega)⟩
theorem of_any (a : Int) (w : World) (h : inI a) : Calls Tryz.prog 72 #[.int .i64 a] w fun e w' => ∃ z, e = .returned (.agg (LA (decide (a < 0)) z)) ∧ Dig z ∧ V z 16 = a.natAbs ∧ Below w.heap.size w w' := by
  refine of_walk a _ _ w h.1 h.2 rfl ?_
  by_cases ha : a < 0
  · exact .inl ⟨ha, by simp [ha]⟩
  · exact .inr ⟨by omega, by simp [ha]⟩
end Go.Proofs.YtbpjlphjhjfdoaaGreat
namespace Go.Proofs.YtbpjlphjhjfdoaaGreat
open Go.ChangeShapes Go.WideShapes Go.ChangeAt Go.RowKit
theorem lay3 (w : World) (b c : Bool) (x y : Nat → Nat) (X Y Z : Array Value) (hX : LA b x = X) (hY : LA c y = Y) (hZ : LA false (fun _ => 0) = Z) : LongAt (((w.alloc (.cells X 79)).alloc (.cells Y 79)).alloc (.cells Z 79)) w.heap.size b x ∧ LongAt (((w.alloc (.cells X 79)).alloc (.cells Y 79)).alloc (.cells Z 79)) (w.heap.size + 1) c y ∧ LongAt (((w.alloc (.cells X 79)).alloc (.cells Y 79)).alloc (.cells Z 79)) (w.heap.size + 1 + 1) false (fun _ => 0) ∧ Below w.heap.size w (((w.alloc (.cells X 79)).alloc (.cells Y 79)).alloc (.cells Z 79)) := by
  subst hX hY hZ
  refine ⟨?_, ?_, ?_, bal (bel2 _ _ _) _⟩ <;> (unfold LongAt; simp only [World.alloc, Array.getElem?_push, Array.size_push]; first | (simp; done) | (rw [if_neg (by omega)]; simp))
theorem wpList_load_longX {ops : Array Oper} {rest : List Oper} {o : Oper} {a : Act} {w : World} {Q : Exit → Act → World → Prop} (hgd : o.guard = none) (x : Operand) (ho : o.op = .load 79 x)
    {b : Nat} {s : Bool} {d : Nat → Nat} {X : Array Value} (hX : LA s d = X) (hL : LongAt w b s d) (hx : a.eval x = .pointer (some ⟨b, 0, none⟩)) (h : wpList Tryz.prog ops Q rest (a.put o.dst (.agg X)) w) : wpList Tryz.prog ops Q (o :: rest) a w := by
  subst hX
  exact wpList_load_long hgd x ho hL hx h
theorem LongAt.stay {w w' : World} {b : Nat} {s : Bool} {d : Nat → Nat} (h : LongAt w b s d) (hb : Below w.heap.size w w') : LongAt w' b s d := h.keep hb h.lt
theorem sgn_same {s : Bool} {a b c : Nat} (h : c = a + b) : sgn s c = sgn s a + sgn s b := by subst h; unfold sgn; split <;> omega
theorem sgn_diff {s t : Bool} {a b z : Nat} (h : s ≠ t) (hz : z + b = a) : sgn s z = sgn s a + sgn t b := by
  unfold sgn
  cases s <;> cases t <;> simp at h <;> simp <;> omega
theorem sgn_diff' {s t : Bool} {a b z : Nat} (h : s ≠ t) (hz : z + b = a) : sgn s z = sgn t b + sgn s a := by rw [sgn_diff h hz, Int.add_comm]
theorem sgn_abs (s : Bool) (n : Nat) : (sgn s n).natAbs = n := by unfold sgn; split <;> omega
theorem cmp_ge {a b : Nat} (h : 0 ≤ cmpV a b) : b ≤ a := by
  unfold cmpV at h
  split at h
  · omega
  · omega
theorem cmp_neg {a b : Nat} (h : ¬ 0 ≤ cmpV a b) : a ≤ b := by
  unfold cmpV at h
  split at h
  · omega
  · split at h <;> omega
theorem up_ab (b c : Bool) (x y : Nat → Nat) (A B : Nat) (X Y : Array Value) (w : World) (hX : LA b x = X) (hY : LA c y = Y) (hx : Dig x) (hy : Dig y) (hA : V x 16 = A) (hB : V y 16 = B) (hs : A + B < 65536 ^ 16) :
    Calls Tryz.prog 89 #[.agg X, .agg Y] w fun e w' => ∃ z, e = .returned (.agg (LA b z)) ∧ Dig z ∧ V z 16 = A + B ∧ Below w.heap.size w w' := by
  subst hA hB hX hY
  exact up_any b c x y w hx hy hs
theorem down_ab (b c : Bool) (x y : Nat → Nat) (A B : Nat) (X Y : Array Value) (w : World) (hX : LA b x = X) (hY : LA c y = Y) (hx : Dig x) (hy : Dig y) (hA : V x 16 = A) (hB : V y 16 = B) (hs : B ≤ A) :
    Calls Tryz.prog 91 #[.agg X, .agg Y] w fun e w' => ∃ z, e = .returned (.agg (LA b z)) ∧ Dig z ∧ V z 16 + B = A ∧ Below w.heap.size w w' := by
  subst hA hB hX hY
  exact down_any b c x y w hx hy hs
theorem cmp_ab (b c : Bool) (x y : Nat → Nat) (A B : Nat) (r : Int) (X Y : Array Value) (w : World) (hX : LA b x = X) (hY : LA c y = Y) (hx : Dig x) (hy : Dig y) (hA : V x 16 = A) (hB : V y 16 = B) (hr : cmpV A B = r) :
    Calls Tryz.prog 90 #[.agg X, .agg Y] w fun e w' => e = .returned (.int .i64 r) ∧ Below w.heap.size w w' := by
  subst hr hA hB hX hY
  exact cmp_any b c x y w hx hy
def IsL (v : Value) (L : Int) : Prop := ∃ s d, v = .agg (LA s d) ∧ Dig d ∧ sgn s (V d 16) = L
theorem of_is (a : Int) (w : World) (h : inI a) : Calls Tryz.prog 72 #[.int .i64 a] w fun e w' => ∃ r, e = .returned r ∧ IsL r a ∧ Below w.heap.size w w' := by
  refine (of_any a w h).mono ?_
  rintro e w' ⟨z, rfl, hz, hV, hb⟩
  refine ⟨_, rfl, ⟨_, z, rfl, hz, ?_⟩, hb⟩
  rw [hV]
  unfold sgn
  by_cases ha : a < 0
  · rw [if_pos (by simp [ha])]; omega
  · rw [if_neg (by simp [ha])]; omega
theorem fits_is (v : Value) (L : Int) (w : World) (hv : IsL v L) : Calls Tryz.prog 73 #[v] w fun e w' => e = .returned (.tuple #[.int .i64 (fitV L), .bool (fitB L)]) ∧ Below w.heap.size w w' := by
  obtain ⟨s, x, rfl, hx, rfl⟩ := hv
  exact lfits_any s x w hx
end Go.Proofs.YtbpjlphjhjfdoaaGreat
namespace Go.Proofs.YtbpjlphjhjfdoaaGreat
open Go.ChangeShapes Go.WideShapes Go.ChangeAt Go.RowKit
structure TimesAt (w wr : World) (s t : Bool) (x y z : Nat → Nat) : Prop where
  lx : LongAt wr w.heap.size s x
  ly : LongAt wr (w.heap.size + 1) t y
  lr : LongAt wr (w.heap.size + 1 + 1) false (fun _ => 0)
  lz : LongAt wr (w.heap.size + 1 + 1 + 1) false z
  bel : Below w.heap.size w wr
theorem lay4t (w : World) (b c : Bool) (x y : Nat → Nat) (X Y Z : Array Value) (hX : LA b x = X) (hY : LA c y = Y) (hZ : LA false (fun _ => 0) = Z) : TimesAt w ((((w.alloc (.cells X 79)).alloc (.cells Y 79)).alloc (.cells Z 79)).alloc (.cells Z 79)) b c x y (fun _ => 0) := by
  subst hX hY hZ
  refine ⟨?_, ?_, ?_, ?_, bal (bal (bel2 _ _ _) _) _⟩ <;> (unfold LongAt; simp only [World.alloc, Array.getElem?_push, Array.size_push]; first | (simp; done) | (rw [if_neg (by omega), if_neg (by omega)]; simp))
theorem TimesAt.put {w wr : World} {s t : Bool} {x y z : Nat → Nat} (h : TimesAt w wr s t x y z) (n k v : Nat) (hk : k < 16) : TimesAt w ((wr.drewN n).setCell ⟨w.heap.size + 1 + 1 + 1, 1 + k, none⟩ (.int .u64 (v : Int))) s t x y (upd z k v) :=
  ⟨(h.lx.drewN n).other _ _ (by simp; omega), (h.ly.drewN n).other _ _ (by simp), (h.lr.drewN n).other _ _ (by simp), (h.lz.drewN n).put k v hk, (below_drewN h.bel n).setCell (by simp; omega) _⟩
theorem TimesAt.put0 {w wr : World} {s t : Bool} {x y z : Nat → Nat} (h : TimesAt w wr s t x y z) (k v : Nat) (hk : k < 16) : TimesAt w (wr.setCell ⟨w.heap.size + 1 + 1 + 1, 1 + k, none⟩ (.int .u64 (v : Int))) s t x y (upd z k v) :=
  ⟨h.lx.other _ _ (by simp; omega), h.ly.other _ _ (by simp), h.lr.other _ _ (by simp), h.lz.put k v hk, h.bel.setCell (by simp; omega) _⟩
theorem flipped {w : World} {b : Nat} {s : Bool} {d : Nat → Nat} (h : LongAt w b s d) (t : Bool) : LongAt (w.setCell ⟨b, 0, none⟩ (.bool t)) b t d := by
  unfold LongAt
  rw [heap_setCell_same w b 0 _ _ _ h]
  rfl
set_option maxRecDepth 20000 in
set_option maxHeartbeats 2000000 in
theorem times_any (s t : Bool) (x y : Nat → Nat) (w : World) (hx : Dig x) (hy : Dig y) :
    Calls Tryz.prog 71 #[.agg (LA s x), .agg (LA t y)] w fun e w' => ∃ z, e = .returned (.agg (LA (s != t) z)) ∧ Dig z ∧ V z 16 = V x 8 * V y 8 ∧ Below w.heap.size w w' := by
  obtain ⟨X, hX⟩ : ∃ X, LA s x = X := ⟨_, rfl⟩
  obtain ⟨Y, hY⟩ : ∃ Y, LA t y = Y := ⟨_, rfl⟩
  have HL0 : Hid (TimesAt _ _ _ _ _ _ _) := lay4t w s t x y X Y #[Value.bool false, Value.int .u64 0, Value.int .u64 0, Value.int .u64 0, Value.int .u64 0, Value.int .u64 0, Value.int .u64 0, Value.int .u64 0, Value.int .u64 0, Value.int .u64 0, Value.int .u64 0, Value.int .u64 0, Value.int .u64 0, Value.int .u64 0, Value.int .u64 0, Value.int .u64 0, Value.int .u64 0] hX hY rfl
  have HDx : Hid (Dig x) := hx
  have HDy : Hid (Dig y) := hy
  rw [hX, hY]
  have hsx : X.size = 17 := by rw [← hX]; rfl
  have hsy : Y.size = 17 := by rw [← hY]; rfl
  clear hX hY hx hy
  go_enter Tryz.func71, Tryz.ntmps71
  go_wp2
  go_loopw [6, 7, 8, 9, 10, 11] (fun v6 _ _ _ _ _ wr => ∃ (i : Nat) (z : Nat → Nat), i ≤ 8 ∧ v6 = .int .i64 i ∧ Hid (Dig z ∧ V z 16 = V x i * V y 8) ∧ Hid (TimesAt w wr s t x y z)) (fun v6 _ _ _ _ _ _ => 8 - (intOf v6).toNat)
  case atStart => exact ⟨0, fun _ => 0, Nat.zero_le _, rfl, ⟨fun _ => by simp, Tm.v_nought y⟩, HL0.out⟩
  case round =>
    obtain ⟨i, z, hi, rfl, HI, HL⟩ := hrel
    by_cases hi8 : i < 8
    · have hd8 : decide ((i : Int) < 8) = true := by simp; omega
      go_wp2
      go_loopw [7, 8, 9] (fun v7 v8 _ wr2 => ∃ (j c : Nat) (z2 : Nat → Nat), j ≤ 8 ∧ v8 = .int .i64 j ∧ v7 = .int .u64 c ∧ c ≤ 65535 ∧ Hid (Dig z2 ∧ V z2 16 + c * 65536 ^ (i + j) = V x i * V y 8 + x i * 65536 ^ i * V y j) ∧ Hid (TimesAt w wr2 s t x y z2)) (fun _ v8 _ _ => 8 - (intOf v8).toNat)
      case atStart => exact ⟨0, 0, z, Nat.zero_le _, rfl, rfl, Nat.zero_le _, ⟨HI.out.1, Tm.begin_row HI.out.2⟩, HL.out⟩
      case round =>
        obtain ⟨j, c, z2, hj, rfl, rfl, hc, HJ, HM⟩ := hrel
        by_cases hj8 : j < 8
        · have hcx := HM.out.lx.digit i (by omega)
          have hcy := HM.out.ly.digit j (by omega)
          have hcz := HM.out.lz.digit (i + j) (by omega)
          have hfz := HM.out.lz.free (1 + (i + j))
          have b1 := HDx.out i
          have b2 := HDy.out j
          have b3 := HJ.out.1 (i + j)
          obtain ⟨xi, exi⟩ : ∃ v, x i = v := ⟨_, rfl⟩
          obtain ⟨yj, eyj⟩ : ∃ v, y j = v := ⟨_, rfl⟩
          obtain ⟨zm, ezm⟩ : ∃ v, z2 (i + j) = v := ⟨_, rfl⟩
          rw [exi] at hcx b1
          rw [eyj] at hcy b2
          rw [ezm] at hcz b3
          have hpb : xi * yj ≤ 65535 * 65535 := Nat.mul_le_mul (by omega) (by omega)
          obtain ⟨p, ep⟩ : ∃ p, p = xi * yj := ⟨_, rfl⟩
          rw [← ep] at hpb
          have f1 : IntKind.u64.wrap ((xi : Int) * (yj : Int)) = (p : Int) := by rw [← Int.natCast_mul, ← ep, IntKind.wrap_u64]; omega
          have f2 : (xi : Int) * (yj : Int) = (p : Int) := by rw [← Int.natCast_mul, ← ep]
          have HE : Hid (x i = xi ∧ y j = yj ∧ z2 (i + j) = zm ∧ p = xi * yj) := ⟨exi, eyj, ezm, ep⟩
          clear exi eyj ezm ep
          go_wp2
          go_quiet (fail)
          go_wp2
          go_round
          case rel =>
            obtain ⟨k1, k2⟩ := HJ.out
            obtain ⟨q1, q2, q3, q4⟩ := HE.out
            refine ⟨j + 1, (zm + p + c) / 65536, upd z2 (i + j) ((zm + p + c) % 65536), by omega, by go_num, ?_, by omega, ⟨k1.upd _ _ (by omega), ?_⟩, ?_⟩
            · exact congrArg _ (by omega)
            · have h1 := Tm.V_upd_any z2 (i + j) ((zm + p + c) % 65536) 16 (by omega)
              rw [q3] at h1
              exact Tm.inner_row q1 q2 q4 h1 k2
            · rw [show ((zm : Int) + p + c) % 65536 = (((zm + p + c) % 65536 : Nat) : Int) from by omega]
              exact HM.out.put _ (i + j) _ (by omega)
          case measure => first | (simp [intOf]; done) | (simp [intOf]; omega)
        · have hj9 : Hid (j = 8) := by show _ = _; omega
          have HT : Hid (Dig z2 ∧ V z2 16 + c * 65536 ^ (i + 8) = V x (i + 1) * V y 8) := by
            have h8 := HJ.out
            rw [hj9.out] at h8
            exact ⟨h8.1, h8.2.trans (Tm.next_row x y i)⟩
          have HTL : Hid (V x (i + 1) * V y 8 < 65536 ^ 16) := Tm.prod_lt HDx.out HDy.out (by omega)
          go_wp2
          go_loopw [7, 10, 11] (fun v7 v10 _ wr3 => ∃ (k c3 : Nat) (z3 : Nat → Nat), i + 8 ≤ k ∧ k ≤ 16 ∧ v10 = .int .i64 k ∧ v7 = .int .u64 c3 ∧ c3 ≤ 65535 ∧ Hid (Dig z3 ∧ V z3 16 + c3 * 65536 ^ k = V x (i + 1) * V y 8) ∧ Hid (TimesAt w wr3 s t x y z3)) (fun _ v10 _ _ => 16 - (intOf v10).toNat)
          case atStart => exact ⟨i + 8, c, z2, Nat.le_refl _, by omega, by go_num, rfl, hc, HT.out, HM.out⟩
          case round =>
            obtain ⟨k, c3, z3, hk8, hk, rfl, rfl, hc3, HK, HN⟩ := hrel
            by_cases hgo : k < 16 ∧ 0 < c3
            · obtain ⟨hk16, hc0⟩ := hgo
              have hcz := HN.out.lz.digit k hk16
              have hfz := HN.out.lz.free (1 + k)
              have b3 := HK.out.1 k
              obtain ⟨zk, ezk⟩ : ∃ v, z3 k = v := ⟨_, rfl⟩
              rw [ezk] at hcz b3
              have HE : Hid (z3 k = zk) := ezk
              clear ezk
              go_wp2
              go_round
              case rel =>
                obtain ⟨k1, k2⟩ := HK.out
                refine ⟨k + 1, (zk + c3) / 65536, upd z3 k ((zk + c3) % 65536), by omega, by omega, by go_num, ?_, by omega, ⟨k1.upd _ _ (by omega), ?_⟩, ?_⟩
                · exact congrArg _ (by omega)
                · have h1 := Tm.V_upd_any z3 k ((zk + c3) % 65536) 16 hk16
                  rw [HE.out] at h1
                  exact Tm.carry_row h1 k2
                · rw [show ((zk : Int) + c3) % 65536 = (((zk + c3) % 65536 : Nat) : Int) from by omega]
                  exact HN.out.put0 k _ hk16
              case measure => first | (simp [intOf]; done) | (simp [intOf]; omega)
            · have hc0 : c3 = 0 := by
                by_cases h16 : k < 16
                · omega
                · obtain rfl : k = 16 := by omega
                  exact Tm.no_carry HK.out.2 HTL.out
              subst hc0
              have HR : Hid (Dig z3 ∧ V z3 16 = V x (i + 1) * V y 8) := ⟨HK.out.1, Tm.drop_nought HK.out.2⟩
              by_cases h16 : k < 16
              · go_wp2
                go_round
                case rel => exact ⟨i + 1, z3, by omega, by go_num, HR.out, HN.out⟩
                case measure => first | (simp [intOf]; done) | (simp [intOf]; omega)
              · go_wp2
                go_round
                case rel => exact ⟨i + 1, z3, by omega, by go_num, HR.out, HN.out⟩
                case measure => first | (simp [intOf]; done) | (simp [intOf]; omega)
    · obtain rfl : i = 8 := by omega
      have hcx := HL.out.lx.sign
      have hcy := HL.out.ly.sign
      have hcz := HL.out.lz.sign
      have hfz := HL.out.lz.free 0
      have H3 : Hid (∀ r, LongAt (wr.setCell ⟨w.heap.size + 1 + 1 + 1, 0, none⟩ (.bool r)) (w.heap.size + 1 + 1 + 1) r z ∧ LongAt (wr.setCell ⟨w.heap.size + 1 + 1 + 1, 0, none⟩ (.bool r)) (w.heap.size + 1 + 1) false (fun _ => 0) ∧ Below w.heap.size w (wr.setCell ⟨w.heap.size + 1 + 1 + 1, 0, none⟩ (.bool r))) :=
        fun r => ⟨flipped HL.out.lz r, HL.out.lr.other _ _ (by simp), HL.out.bel.setCell (by simp; omega) _⟩
      have hI := HI.out
      have HI2 : Hid (_ ∧ _) := hI
      clear hI HI HL HL0
      cases s <;> cases t
      all_goals
        go_wp2_with (first
          | ((with_reducible refine guard_load 79 ?_); refine wpList_load_long rfl _ rfl (H3.out _).1 rfl ?_)
          | ((with_reducible refine guard_store 79 ?_); refine wpList_store_long rfl _ _ rfl (H3.out _).2.1 rfl rfl ?_; intro w2 hL2 hB2))
        refine bodyPost_ret (results_cell rfl _ _ _ _ rfl hL2.loadVar) rfl ?_
        exact ⟨z, rfl, HI2.out.1, HI2.out.2, hB2 _ _ (H3.out _).2.2 (by omega)⟩
end Go.Proofs.YtbpjlphjhjfdoaaGreat
