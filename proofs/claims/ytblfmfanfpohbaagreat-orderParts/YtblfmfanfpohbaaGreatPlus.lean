/- What the reference's Plus answers. -/
import Derived.Test.YtblfmfanfpohbaaGreatUp
import Derived.Test.YtblfmfanfpohbaaGreatOf
import Derived.Test.YtblfmfanfpohbaaGreatFits
import Derived.Deep.RegionWith
namespace Go.Proofs.YtblfmfanfpohbaaGreat
open Go.ChangeShapes Go.WideShapes Go.ChangeAt Go.RowKit
theorem lay3 (w : World) (b c : Bool) (x y : Nat → Nat) (X Y Z : Array Value) (hX : LA b x = X) (hY : LA c y = Y) (hZ : LA false (fun _ => 0) = Z) : LongAt (((w.alloc (.cells X 61)).alloc (.cells Y 61)).alloc (.cells Z 61)) w.heap.size b x ∧ LongAt (((w.alloc (.cells X 61)).alloc (.cells Y 61)).alloc (.cells Z 61)) (w.heap.size + 1) c y ∧ LongAt (((w.alloc (.cells X 61)).alloc (.cells Y 61)).alloc (.cells Z 61)) (w.heap.size + 1 + 1) false (fun _ => 0) ∧ Below w.heap.size w (((w.alloc (.cells X 61)).alloc (.cells Y 61)).alloc (.cells Z 61)) := by
  subst hX hY hZ
  refine ⟨?_, ?_, ?_, bal (bel2 _ _ _) _⟩ <;> (unfold LongAt; simp only [World.alloc, Array.getElem?_push, Array.size_push]; first | (simp; done) | (rw [if_neg (by omega)]; simp))
theorem wpList_load_longX {ops : Array Oper} {rest : List Oper} {o : Oper} {a : Act} {w : World} {Q : Exit → Act → World → Prop} (hgd : o.guard = none) (x : Operand) (ho : o.op = .load 61 x)
    {b : Nat} {s : Bool} {d : Nat → Nat} {X : Array Value} (hX : LA s d = X) (hL : LongAt w b s d) (hx : a.eval x = .pointer (some ⟨b, 0, none⟩)) (h : wpList Tryz.prog ops Q rest (a.put o.dst (.agg X)) w) : wpList Tryz.prog ops Q (o :: rest) a w := by
  subst hX
  exact wpList_load_long hgd x ho hL hx h
theorem LongAt.stay {w w' : World} {b : Nat} {s : Bool} {d : Nat → Nat} (h : LongAt w b s d) (hb : Below w.heap.size w w') : LongAt w' b s d := h.keep hb h.lt
theorem sgn_same {s : Bool} {a b c : Nat} (h : c = a + b) : sgn s c = sgn s a + sgn s b := by subst h; unfold sgn; split <;> omega
theorem sgn_diff {s t : Bool} {a b z : Nat} (h : s ≠ t) (hz : z + b = a) : sgn s z = sgn s a + sgn t b := by
  unfold sgn
  cases s <;> cases t <;> simp at h <;> simp <;> omega
theorem sgn_diff' {s t : Bool} {a b z : Nat} (h : s ≠ t) (hz : z + b = a) : sgn s z = sgn t b + sgn s a := by rw [sgn_diff h hz, Int.add_comm]
theorem sgn_abs (s : Bool) (n : Nat) : (sgn s n).natAbs = n := by unfold sgn; split <;> omega
theorem cmp_ge {a b : Nat} (h : 0 ≤ cmpV a b) : b ≤ a := by
  unfold cmpV at h
  split at h
  · omega
  · omega
theorem cmp_neg {a b : Nat} (h : ¬ 0 ≤ cmpV a b) : a ≤ b := by
  unfold cmpV at h
  split at h
  · omega
  · split at h <;> omega
theorem up_ab (b c : Bool) (x y : Nat → Nat) (A B : Nat) (X Y : Array Value) (w : World) (hX : LA b x = X) (hY : LA c y = Y) (hx : Dig x) (hy : Dig y) (hA : V x 16 = A) (hB : V y 16 = B) (hs : A + B < 65536 ^ 16) :
    Calls Tryz.prog 78 #[.agg X, .agg Y] w fun e w' => ∃ z, e = .returned (.agg (LA b z)) ∧ Dig z ∧ V z 16 = A + B ∧ Below w.heap.size w w' := by
  subst hA hB hX hY
  exact up_any b c x y w hx hy hs
theorem down_ab (b c : Bool) (x y : Nat → Nat) (A B : Nat) (X Y : Array Value) (w : World) (hX : LA b x = X) (hY : LA c y = Y) (hx : Dig x) (hy : Dig y) (hA : V x 16 = A) (hB : V y 16 = B) (hs : B ≤ A) :
    Calls Tryz.prog 79 #[.agg X, .agg Y] w fun e w' => ∃ z, e = .returned (.agg (LA b z)) ∧ Dig z ∧ V z 16 + B = A ∧ Below w.heap.size w w' := by
  subst hA hB hX hY
  exact down_any b c x y w hx hy hs
theorem cmp_ab (b c : Bool) (x y : Nat → Nat) (A B : Nat) (r : Int) (X Y : Array Value) (w : World) (hX : LA b x = X) (hY : LA c y = Y) (hx : Dig x) (hy : Dig y) (hA : V x 16 = A) (hB : V y 16 = B) (hr : cmpV A B = r) :
    Calls Tryz.prog 40 #[.agg X, .agg Y] w fun e w' => e = .returned (.int .i64 r) ∧ Below w.heap.size w w' := by
  subst hr hA hB hX hY
  exact cmp_any b c x y w hx hy
/-- the value v is the long number L -/
def IsL (v : Value) (L : Int) : Prop := ∃ s d, v = .agg (LA s d) ∧ Dig d ∧ sgn s (V d 16) = L
set_option maxRecDepth 20000 in
set_option maxHeartbeats 2000000 in
theorem plusL_any (s t : Bool) (x y : Nat → Nat) (A B : Nat) (w : World) (hx : Dig x) (hy : Dig y) (hA : V x 16 = A) (hB : V y 16 = B) (hs : A + B < 65536 ^ 16) :
    Calls Tryz.prog 39 #[.agg (LA s x), .agg (LA t y)] w fun e w' => ∃ v, e = .returned v ∧ IsL v (sgn s A + sgn t B) ∧ Below w.heap.size w w' := by
  obtain ⟨X, hX⟩ : ∃ X, LA s x = X := ⟨_, rfl⟩
  obtain ⟨Y, hY⟩ : ∃ Y, LA t y = Y := ⟨_, rfl⟩
  have hl3 := lay3 w s t x y X Y #[Value.bool false, Value.int .u64 0, Value.int .u64 0, Value.int .u64 0, Value.int .u64 0, Value.int .u64 0, Value.int .u64 0, Value.int .u64 0, Value.int .u64 0, Value.int .u64 0, Value.int .u64 0, Value.int .u64 0, Value.int .u64 0, Value.int .u64 0, Value.int .u64 0, Value.int .u64 0, Value.int .u64 0] hX hY rfl
  have HDx : Hid (Dig x) := hx
  have HDy : Hid (Dig y) := hy
  have HA : Hid (V x 16 = A) := hA
  have HB : Hid (V y 16 = B) := hB
  have HS : Hid (A + B < 65536 ^ 16) := hs
  have HX : Hid (LA s x = X) := hX
  have HY : Hid (LA t y = Y) := hY
  rw [hX, hY]
  have hsx : X.size = 17 := by rw [← hX]; rfl
  have hsy : Y.size = 17 := by rw [← hY]; rfl
  have hX0 : X[0] = .bool s := by subst hX; rfl
  have hY0 : Y[0] = .bool t := by subst hY; rfl
  obtain ⟨L1, L2, L3, LB⟩ := hl3
  have HL1 : Hid (LongAt _ _ _ _) := L1
  have HL2 : Hid (LongAt _ _ _ _) := L2
  have HL3 : Hid (LongAt _ _ _ _) := L3
  have HLB : Hid (Below _ _ _) := LB
  clear hX hY hx hy hs hA hB L1 L2 L3 LB
  by_cases hst : s = t
  · subst hst
    go_enter Tryz.func39, Tryz.ntmps39
    go_wp2_with (first
      | ((with_reducible refine guard_load 61 ?_); first | refine wpList_load_longX rfl _ rfl HX.out HL1.out rfl ?_ | refine wpList_load_longX rfl _ rfl HY.out HL2.out rfl ?_)
      | ((with_reducible refine guard_store 61 ?_); refine wpList_store_long rfl _ _ rfl (HL3.out.stay hb1) rfl rfl ?_; intro w2 hL2 hB2)
      | (go_at_call 78; refine (up_ab s s x y A B X Y _ HX.out HY.out HDx.out HDy.out HA.out HB.out HS.out).mono ?_; rintro e w1 ⟨z, rfl, hz1, hz2, hb1⟩; have HZ : Hid (Dig z ∧ V z 16 = A + B) := ⟨hz1, hz2⟩; clear hz1 hz2))
    refine bodyPost_ret (results_cell rfl _ _ _ _ rfl hL2.loadVar) rfl ?_
    exact ⟨_, rfl, ⟨s, z, rfl, HZ.out.1, sgn_same HZ.out.2⟩, hB2 _ _ (HLB.out.trans (hb1.mono HLB.out.size)) (by omega)⟩
  · have hst2 : (s == t) = false := by cases s <;> cases t <;> simp_all
    have HN : Hid (s ≠ t) := hst
    obtain ⟨cv, ecv⟩ : ∃ c, cmpV A B = c := ⟨_, rfl⟩
    have HC : Hid (cmpV A B = cv) := ecv
    clear ecv hst
    by_cases hc : 0 ≤ cv
    · have HLE : Hid (B ≤ A) := cmp_ge (by rw [HC.out]; exact hc)
      go_enter Tryz.func39, Tryz.ntmps39
      go_wp2_with (first
        | ((with_reducible refine guard_load 61 ?_); first | refine wpList_load_longX rfl _ rfl HX.out HL1.out rfl ?_ | refine wpList_load_longX rfl _ rfl HY.out HL2.out rfl ?_ | refine wpList_load_longX rfl _ rfl HX.out (HL1.out.stay hb1) rfl ?_ | refine wpList_load_longX rfl _ rfl HY.out (HL2.out.stay hb1) rfl ?_)
        | ((with_reducible refine guard_store 61 ?_); refine wpList_store_long rfl _ _ rfl ((HL3.out.stay hb1).stay hb2) rfl rfl ?_; intro w2 hL2 hB2)
        | (go_at_call 40; refine (cmp_ab s t x y A B cv X Y _ HX.out HY.out HDx.out HDy.out HA.out HB.out HC.out).mono ?_; rintro e w1 ⟨rfl, hb1⟩)
        | (go_at_call 79; refine (down_ab s t x y A B X Y _ HX.out HY.out HDx.out HDy.out HA.out HB.out HLE.out).mono ?_; rintro e w3 ⟨z, rfl, hz1, hz2, hb2⟩; have HZ : Hid (Dig z ∧ V z 16 + B = A) := ⟨hz1, hz2⟩; clear hz1 hz2))
      refine bodyPost_ret (results_cell rfl _ _ _ _ rfl hL2.loadVar) rfl ?_
      exact ⟨_, rfl, ⟨s, z, rfl, HZ.out.1, sgn_diff HN.out HZ.out.2⟩, hB2 _ _ ((HLB.out.trans (hb1.mono HLB.out.size)).trans (hb2.mono (Nat.le_trans HLB.out.size hb1.size))) (by omega)⟩
    · have HLE : Hid (A ≤ B) := cmp_neg (by rw [HC.out]; exact hc)
      go_enter Tryz.func39, Tryz.ntmps39
      go_wp2_with (first
        | ((with_reducible refine guard_load 61 ?_); first | refine wpList_load_longX rfl _ rfl HX.out HL1.out rfl ?_ | refine wpList_load_longX rfl _ rfl HY.out HL2.out rfl ?_ | refine wpList_load_longX rfl _ rfl HX.out (HL1.out.stay hb1) rfl ?_ | refine wpList_load_longX rfl _ rfl HY.out (HL2.out.stay hb1) rfl ?_)
        | ((with_reducible refine guard_store 61 ?_); refine wpList_store_long rfl _ _ rfl ((HL3.out.stay hb1).stay hb2) rfl rfl ?_; intro w2 hL2 hB2)
        | (go_at_call 40; refine (cmp_ab s t x y A B cv X Y _ HX.out HY.out HDx.out HDy.out HA.out HB.out HC.out).mono ?_; rintro e w1 ⟨rfl, hb1⟩)
        | (go_at_call 79; refine (down_ab t s y x B A Y X _ HY.out HX.out HDy.out HDx.out HB.out HA.out HLE.out).mono ?_; rintro e w3 ⟨z, rfl, hz1, hz2, hb2⟩; have HZ : Hid (Dig z ∧ V z 16 + A = B) := ⟨hz1, hz2⟩; clear hz1 hz2))
      refine bodyPost_ret (results_cell rfl _ _ _ _ rfl hL2.loadVar) rfl ?_
      exact ⟨_, rfl, ⟨t, z, rfl, HZ.out.1, sgn_diff' HN.out.symm HZ.out.2⟩, hB2 _ _ ((HLB.out.trans (hb1.mono HLB.out.size)).trans (hb2.mono (Nat.le_trans HLB.out.size hb1.size))) (by omega)⟩
theorem plus_is (v u : Value) (L M : Int) (w : World) (hv : IsL v L) (hu : IsL u M) (hs : L.natAbs + M.natAbs < 65536 ^ 16) :
    Calls Tryz.prog 39 #[v, u] w fun e w' => ∃ r, e = .returned r ∧ IsL r (L + M) ∧ Below w.heap.size w w' := by
  obtain ⟨s, x, rfl, hx, rfl⟩ := hv
  obtain ⟨t, y, rfl, hy, rfl⟩ := hu
  rw [sgn_abs, sgn_abs] at hs
  exact plusL_any s t x y _ _ w hx hy rfl rfl hs
theorem of_is (a : Int) (w : World) (h : inI a) : Calls Tryz.prog 36 #[.int .i64 a] w fun e w' => ∃ r, e = .returned r ∧ IsL r a ∧ Below w.heap.size w w' := by
  refine (of_any a w h).mono ?_
  rintro e w' ⟨z, rfl, hz, hV, hb⟩
  refine ⟨_, rfl, ⟨_, z, rfl, hz, ?_⟩, hb⟩
  rw [hV]
  unfold sgn
  by_cases ha : a < 0
  · rw [if_pos (by simp [ha])]; omega
  · rw [if_neg (by simp [ha])]; omega
theorem fits_is (v : Value) (L : Int) (w : World) (hv : IsL v L) : Calls Tryz.prog 34 #[v] w fun e w' => e = .returned (.tuple #[.int .i64 (fitV L), .bool (fitB L)]) ∧ Below w.heap.size w w' := by
  obtain ⟨s, x, rfl, hx, rfl⟩ := hv
  exact lfits_any s x w hx
end Go.Proofs.YtblfmfanfpohbaaGreat
