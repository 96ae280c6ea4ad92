/- What the reference's Over answers. -/
import Derived.Test.YtblfmfanfpohbaaGreatOmath
import Derived.Test.YtblfmfanfpohbaaGreatTimes
import Derived.Test.YtblfmfanfpohbaaGreatRSum
import Derived.Deep.RegionWith
namespace Go.Proofs.YtblfmfanfpohbaaGreat
open Go.ChangeShapes Go.WideShapes Go.ChangeAt Go.RowKit
theorem wpList_store_longX {ops : Array Oper} {rest : List Oper} {o : Oper} {a : Act} {w : World} {Q : Exit → Act → World → Prop} (hgd : o.guard = none) (x y : Operand) (ho : o.op = .store 61 x y)
    {b : Nat} {s s2 : Bool} {d d2 : Nat → Nat} {Y : Array Value} (hY : LA s2 d2 = Y) (hL : LongAt w b s d) (hx : a.eval x = .pointer (some ⟨b, 0, none⟩)) (hy : a.eval y = .agg Y)
    (h : ∀ w2, LongAt w2 b s2 d2 → (∀ B a, Below B a w → B ≤ b → Below B a w2) → wpList Tryz.prog ops Q rest (a.put o.dst undef) w2) : wpList Tryz.prog ops Q (o :: rest) a w := by
  subst hY
  exact wpList_store_long hgd x y ho hL hx hy h
theorem over_begin {x : Nat → Nat} {A B : Nat} (hA : V x 16 = A) (hx : Dig x) (hB : 0 < B) : ∃ Q, A / 2 ^ 256 = Q * B + V (fun _ => 0) 16 ∧ V (fun _ => 0) 16 < B ∧ V (fun _ => 0) 16 = Q * 2 ^ 256 := by
  have h0 : V (fun _ => 0) 16 = 0 := (V_zero (x := fun _ => 0) (n := 0) 16 (fun _ _ _ => rfl) (by omega)).trans rfl
  have h1 := V_lt x 16 hx
  rw [hA, show (65536 : Nat) ^ 16 = 2 ^ 256 from by rw [show (65536 : Nat) = 2 ^ 16 from rfl, ← Nat.pow_mul]] at h1
  refine ⟨0, ?_, ?_, ?_⟩
  · rw [Nat.div_eq_of_lt h1, Nat.zero_mul, h0]
  · exact Nat.lt_of_le_of_lt (Nat.le_of_eq h0) hB
  · rw [Nat.zero_mul]; exact h0
/-- the seven long numbers that lie in a call of Over -/
structure OverAt (w wr : World) (s t : Bool) (x y q r : Nat → Nat) : Prop where
  lx : LongAt wr (w.heap.size) s x
  ly : LongAt wr (w.heap.size + 1) t y
  l2 : LongAt wr (w.heap.size + 1 + 1) false (fun _ => 0)
  l3 : LongAt wr (w.heap.size + 1 + 1 + 1) false (fun _ => 0)
  lq : LongAt wr (w.heap.size + 1 + 1 + 1 + 1) false q
  lr : LongAt wr (w.heap.size + 1 + 1 + 1 + 1 + 1) false r
  lz : LongAt wr (w.heap.size + 1 + 1 + 1 + 1 + 1 + 1) false y
  bel : Below w.heap.size w wr
theorem lay7 (w : World) (b c : Bool) (x y : Nat → Nat) (X Y Z : Array Value) (hX : LA b x = X) (hY : LA c y = Y) (hZ : LA false (fun _ => 0) = Z) :
    LongAt ((((((w.alloc (.cells X 61)).alloc (.cells Y 61)).alloc (.cells Z 61)).alloc (.cells Z 61)).alloc (.cells Z 61)).alloc (.cells Z 61)) (w.heap.size + 1) c y ∧ LongAt (((((((w.alloc (.cells X 61)).alloc (.cells Y 61)).alloc (.cells Z 61)).alloc (.cells Z 61)).alloc (.cells Z 61)).alloc (.cells Z 61)).alloc (.cells Z 61)) (w.heap.size + 1 + 1 + 1 + 1 + 1 + 1) false (fun _ => 0) ∧ (∀ w2, (∀ B a, Below B a (((((((w.alloc (.cells X 61)).alloc (.cells Y 61)).alloc (.cells Z 61)).alloc (.cells Z 61)).alloc (.cells Z 61)).alloc (.cells Z 61)).alloc (.cells Z 61)) → B ≤ w.heap.size + 1 + 1 + 1 + 1 + 1 + 1 → Below B a w2) → LongAt w2 (w.heap.size + 1 + 1 + 1 + 1 + 1 + 1) c y → OverAt w (w2.setCell ⟨w.heap.size + 1 + 1 + 1 + 1 + 1 + 1, 0, none⟩ (.bool false)) b c x y (fun _ => 0) (fun _ => 0)) := by
  subst hX hY hZ
  refine ⟨?_, ?_, fun w2 h2 h6 => ?_⟩
  · unfold LongAt; simp only [World.alloc, Array.getElem?_push, Array.size_push]; simp
  · unfold LongAt; simp only [World.alloc, Array.getElem?_push, Array.size_push]; simp
  · have hk := h2 (w.heap.size + 1 + 1 + 1 + 1 + 1 + 1) _ (Below.refl _ _) (Nat.le_refl _)
    have h0 : ∀ (k : Nat) (s : Bool) (d : Nat → Nat), k < w.heap.size + 1 + 1 + 1 + 1 + 1 + 1 → LongAt ((((((((w.alloc (.cells (LA b x) 61)).alloc (.cells (LA c y) 61)).alloc (.cells (LA false fun _ => 0) 61)).alloc (.cells (LA false fun _ => 0) 61)).alloc (.cells (LA false fun _ => 0) 61)).alloc (.cells (LA false fun _ => 0) 61)).alloc (.cells (LA false fun _ => 0) 61))) k s d → LongAt (w2.setCell ⟨w.heap.size + 1 + 1 + 1 + 1 + 1 + 1, 0, none⟩ (.bool false)) k s d := fun k s d hk2 h => (h.keep hk hk2).other _ _ (by simp; omega)
    refine ⟨h0 _ _ _ (by omega) ?_, h0 _ _ _ (by omega) ?_, h0 _ _ _ (by omega) ?_, h0 _ _ _ (by omega) ?_, h0 _ _ _ (by omega) ?_, h0 _ _ _ (by omega) ?_, flipped h6 false, (h2 _ _ (bal (bal (bal (bal (bal (bel2 _ _ _) _) _) _) _) _) (by omega)).setCell (by simp; omega) _⟩ <;> (unfold LongAt; simp only [World.alloc, Array.getElem?_push, Array.size_push]; first | (simp; done) | ((repeat (rw [if_neg (by omega)])); simp))
theorem LongAt.storeO {w : World} {b : Nat} {s : Bool} {d : Nat → Nat} (h : LongAt w b s d) (s2 : Bool) (d2 : Nat → Nat) : ∃ w2, (Instr.storeAt 61 (.pointer (some ⟨b, 0, none⟩)) (.agg (LA s2 d2))).run Tryz.prog w = .ok () w2 ∧ LongAt w2 b s2 d2 ∧ (∀ k s d, k ≠ b → LongAt w k s d → LongAt w2 k s d) ∧ (∀ B a, Below B a w → B ≤ b → Below B a w2) := by
  refine ⟨w.setRow b (LA s2 d2), ?_, ?_, fun k s d hk hL => ?_, fun B a hb hB => below_setRowL hb b _ hB⟩
  · simp only [Instr.storeAt, Instr.sureAddr, Sem.run_bind, Sem.run_pure, Result.andThen_ok, run_storeVar_row w b 61 61 (LA s d) (LA s2 d2) h Tryz.info28 rfl (LA_one s2 d2)]
  · unfold LongAt at h ⊢
    simp [World.setRow, Array.getElem?_modify, h]
  · unfold LongAt at hL ⊢
    simp only [World.setRow, Array.getElem?_modify]
    rw [if_neg (fun e => hk e.symm)]
    exact hL
theorem wpList_store_longO {ops : Array Oper} {rest : List Oper} {o : Oper} {a : Act} {w : World} {Q : Exit → Act → World → Prop} (hgd : o.guard = none) (x y : Operand) (ho : o.op = .store 61 x y)
    {b : Nat} {s s2 : Bool} {d d2 : Nat → Nat} (hL : LongAt w b s d) (hx : a.eval x = .pointer (some ⟨b, 0, none⟩)) (hy : a.eval y = .agg (LA s2 d2))
    (h : ∀ w2, LongAt w2 b s2 d2 → (∀ k s d, k ≠ b → LongAt w k s d → LongAt w2 k s d) → (∀ B a, Below B a w → B ≤ b → Below B a w2) → wpList Tryz.prog ops Q rest (a.put o.dst undef) w2) : wpList Tryz.prog ops Q (o :: rest) a w :=
  wpList_plain hgd fun _ hK => by
    obtain ⟨w2, h1, h2, h3, h4⟩ := hL.storeO s2 d2
    unfold Oper.wp execOp
    simp only [ho, hx, hy, Sem.run_bind, Sem.run_pure, Result.andThen_ok, h1]
    exact hK _ _ (h w2 h2 h3 h4)
theorem OverAt.put_r {w wr w1 w2 : World} {s t : Bool} {x y q r z : Nat → Nat} (h : OverAt w wr s t x y q r) (hb1 : Below wr.heap.size wr w1) (hO : ∀ k s d, k ≠ w.heap.size + 1 + 1 + 1 + 1 + 1 → LongAt w1 k s d → LongAt w2 k s d) (hL : LongAt w2 (w.heap.size + 1 + 1 + 1 + 1 + 1) false z) (hB : ∀ B a, Below B a w1 → B ≤ w.heap.size + 1 + 1 + 1 + 1 + 1 → Below B a w2) : OverAt w w2 s t x y q z :=
  ⟨hO _ _ _ (by omega) (h.lx.stay hb1), hO _ _ _ (by omega) (h.ly.stay hb1), hO _ _ _ (by omega) (h.l2.stay hb1), hO _ _ _ (by omega) (h.l3.stay hb1), hO _ _ _ (by omega) (h.lq.stay hb1), hL, hO _ _ _ (by omega) (h.lz.stay hb1), hB _ _ (h.bel.trans (hb1.mono h.bel.size)) (by omega)⟩
theorem OverAt.digit_r {w wr : World} {s t : Bool} {x y q r : Nat → Nat} (h : OverAt w wr s t x y q r) (k v : Nat) (hk : k < 16) : OverAt w (wr.drew.setCell ⟨w.heap.size + 1 + 1 + 1 + 1 + 1, 1 + k, none⟩ (.int .u64 (v : Int))) s t x y q (upd r k v) :=
  ⟨LongAt.other (w := wr.drew) h.lx _ _ (by first | (simp; done) | (simp; omega)), LongAt.other (w := wr.drew) h.ly _ _ (by first | (simp; done) | (simp; omega)), LongAt.other (w := wr.drew) h.l2 _ _ (by first | (simp; done) | (simp; omega)), LongAt.other (w := wr.drew) h.l3 _ _ (by first | (simp; done) | (simp; omega)), LongAt.other (w := wr.drew) h.lq _ _ (by first | (simp; done) | (simp; omega)), LongAt.put (w := wr.drew) h.lr k v hk, LongAt.other (w := wr.drew) h.lz _ _ (by first | (simp; done) | (simp; omega)), h.bel.drew.setCell (by simp; omega) _⟩
theorem OverAt.digit_q {w wr : World} {s t : Bool} {x y q r : Nat → Nat} (h : OverAt w wr s t x y q r) (k v : Nat) (hk : k < 16) : OverAt w (wr.drew.setCell ⟨w.heap.size + 1 + 1 + 1 + 1, 1 + k, none⟩ (.int .u64 (v : Int))) s t x y (upd q k v) r :=
  ⟨LongAt.other (w := wr.drew) h.lx _ _ (by first | (simp; done) | (simp; omega)), LongAt.other (w := wr.drew) h.ly _ _ (by first | (simp; done) | (simp; omega)), LongAt.other (w := wr.drew) h.l2 _ _ (by first | (simp; done) | (simp; omega)), LongAt.other (w := wr.drew) h.l3 _ _ (by first | (simp; done) | (simp; omega)), LongAt.put (w := wr.drew) h.lq k v hk, LongAt.other (w := wr.drew) h.lr _ _ (by first | (simp; done) | (simp; omega)), LongAt.other (w := wr.drew) h.lz _ _ (by first | (simp; done) | (simp; omega)), h.bel.drew.setCell (by simp; omega) _⟩
theorem OverAt.stay {w wr w1 : World} {s t : Bool} {x y q r : Nat → Nat} (h : OverAt w wr s t x y q r) (hb1 : Below wr.heap.size wr w1) : OverAt w w1 s t x y q r :=
  ⟨h.lx.stay hb1, h.ly.stay hb1, h.l2.stay hb1, h.l3.stay hb1, h.lq.stay hb1, h.lr.stay hb1, h.lz.stay hb1, h.bel.trans (hb1.mono h.bel.size)⟩
theorem twice_lt {R B : Nat} (h : R < B) (hB : B < 65536 ^ 15) : R + R < 65536 ^ 16 := by
  have h1 : (65536 : Nat) ^ 16 = 65536 ^ 15 * 65536 := Nat.pow_succ ..
  rw [h1]
  generalize 65536 ^ 15 = P at *
  omega
theorem over_next {x : Nat → Nat} {A B Q R β b m e xm R2 : Nat} (hA : V x 16 = A) (hx : Dig x) (hb : b = 16 * m + e) (hm : m < 16) (he : e < 16) (hxm : x m = xm) (hβ : xm / 2 ^ e % 2 = β) (h1 : A / 2 ^ (b + 1) = Q * B + R) (hR2 : R2 = 2 * R + β) : A / 2 ^ b = 2 * Q * B + R2 := by
  have h2 := Om.step h1
  have h3 : A / 2 ^ b % 2 = β := by rw [← hA, hb, Om.bit x m e 16 hx hm he, hxm, hβ]
  rw [h3, ← hR2] at h2
  exact h2
theorem over_ge {a Q B R2 z : Nat} (h : a = 2 * Q * B + R2) (hz : z + B = R2) : a = (2 * Q + 1) * B + z := by rw [h, Nat.add_mul, Nat.one_mul]; omega
theorem over_rest {R B β R2 z : Nat} (h : R < B) (hb : β < 2) (hR2 : R2 = 2 * R + β) (hz : z + B = R2) : z < B := by omega
theorem cmp_lt' {a b : Nat} (h : ¬ 0 ≤ cmpV a b) : a < b := by
  unfold cmpV at h
  split at h
  · assumption
  · split at h <;> omega
theorem over_end {A B Q r q : Nat} (h1 : A / 2 ^ 0 = Q * B + r) (h2 : r < B) (h3 : q = Q * 2 ^ 0) : q = A / B ∧ r = A % B := by
  rw [Nat.pow_zero, Nat.div_one] at h1
  rw [Nat.pow_zero, Nat.mul_one] at h3
  subst h3 h1
  rw [Nat.mul_comm q B, Nat.mul_add_div (by omega), Nat.mul_add_mod, Nat.div_eq_of_lt h2, Nat.mod_eq_of_lt h2]
  exact ⟨by omega, rfl⟩
theorem step_store_longO {ops : Array Oper} {o : Oper} {a : Act} {w : World} {K : Act → World → Prop} {Q : Exit → Act → World → Prop} {E : Prop} (hg : o.guard = none) (x y : Operand) (ho : o.op = .store 61 x y)
    {b : Nat} {s s2 : Bool} {d d2 : Nat → Nat} (hL : LongAt w b s d) (hx : a.eval x = .pointer (some ⟨b, 0, none⟩)) (hy : a.eval y = .agg (LA s2 d2))
    (hK : ∀ w2, LongAt w2 b s2 d2 → (∀ k s d, k ≠ b → LongAt w k s d → LongAt w2 k s d) → (∀ B a, Below B a w → B ≤ b → Below B a w2) → K (a.put o.dst undef) w2) :
    if Region.wanted o (yielded ops a.tmps) = true then Oper.wp Tryz.prog o a w K Q else E := by
  have hw : Region.wanted o (yielded ops a.tmps) = true := by simp [Region.wanted, hg]
  rw [if_pos hw]
  obtain ⟨w2, h1, h2, h3, h4⟩ := hL.storeO s2 d2
  unfold Oper.wp execOp
  simp only [ho, hx, hy, Sem.run_bind, Sem.run_pure, Result.andThen_ok, h1]
  exact hK w2 h2 h3 h4
theorem results_cell2 {fn : Func} {t u : Tmp} {ty : TypeId} (h : fn.results = #[.cell t ty, .cell u ty]) (tmps : Array Value) (w : World) (b c : Nat) (v z : Value) (ht : tmps.getD t undef = .pointer (some ⟨b, 0, none⟩)) (hu : tmps.getD u undef = .pointer (some ⟨c, 0, none⟩)) (hl : (Go.loadVar ty ⟨b, 0, none⟩).run Tryz.prog w = .ok v w) (hm : (Go.loadVar ty ⟨c, 0, none⟩).run Tryz.prog w = .ok z w) :
    (results fn tmps).run Tryz.prog w = .ok (.tuple #[v, z]) w := by
  simp only [Array.getD_eq_getD_getElem?] at ht hu
  simp [results, h, ht, hu, asAddr, hl, hm]
set_option maxRecDepth 20000 in
set_option maxHeartbeats 4000000 in
theorem over_any (s t : Bool) (x y : Nat → Nat) (A B : Nat) (w : World) (hx : Dig x) (hy : Dig y) (hA : V x 16 = A) (hB : V y 16 = B) (hB0 : 0 < B) (hB1 : B < 65536 ^ 15) :
    Calls Tryz.prog 37 #[.agg (LA s x), .agg (LA t y)] w fun e w' => ∃ q r, e = .returned (.tuple #[.agg (LA (s != t) q), .agg (LA false r)]) ∧ Dig q ∧ Dig r ∧ V q 16 = A / B ∧ V r 16 = A % B ∧ Below w.heap.size w w' := by
  obtain ⟨X, hX⟩ : ∃ X, LA s x = X := ⟨_, rfl⟩
  obtain ⟨Y, hY⟩ : ∃ Y, LA t y = Y := ⟨_, rfl⟩
  have HX : Hid (LA s x = X) := hX
  have HY : Hid (LA t y = Y) := hY
  have hl7 := lay7 w s t x y X Y #[Value.bool false, Value.int .u64 0, Value.int .u64 0, Value.int .u64 0, Value.int .u64 0, Value.int .u64 0, Value.int .u64 0, Value.int .u64 0, Value.int .u64 0, Value.int .u64 0, Value.int .u64 0, Value.int .u64 0, Value.int .u64 0, Value.int .u64 0, Value.int .u64 0, Value.int .u64 0, Value.int .u64 0] hX hY rfl
  have H7 : Hid (_ ∧ _ ∧ _) := hl7
  have HDx : Hid (Dig x) := hx
  have HDy : Hid (Dig y) := hy
  have HA : Hid (V x 16 = A) := hA
  have HB : Hid (V y 16 = B) := hB
  have HB0 : Hid (0 < B ∧ B < 65536 ^ 15) := ⟨hB0, hB1⟩
  rw [hX, hY]
  have hsx : X.size = 17 := by rw [← hX]; rfl
  have hsy : Y.size = 17 := by rw [← hY]; rfl
  clear hX hY hx hy hA hB hB0 hB1 hl7
  go_enter Tryz.func37, Tryz.ntmps37
  go_wp2_with (first
    | ((with_reducible refine guard_load 61 ?_); refine wpList_load_longX rfl _ rfl HY.out H7.out.1 rfl ?_)
    | ((with_reducible refine guard_store 61 ?_); refine wpList_store_longX rfl _ _ rfl HY.out H7.out.2.1 rfl rfl ?_; intro w7 hL7 hB7; have hc7 := hL7.sign; have hf7 := hL7.free 0; have HO : Hid (OverAt _ _ _ _ _ _ _ _) := H7.out.2.2 w7 hB7 hL7; clear hL7 hB7))
  go_loopw [9] (fun vi wr => ∃ (k : Nat) (q r : Nat → Nat), k ≤ 256 ∧ vi = .int .i64 ((k : Int) - 1) ∧ Hid (Dig q ∧ Dig r ∧ ∃ Q, A / 2 ^ k = Q * B + V r 16 ∧ V r 16 < B ∧ V q 16 = Q * 2 ^ k) ∧ Hid (OverAt w wr s t x y q r)) (fun vi _ => (intOf vi + 1).toNat)
  case atStart => exact ⟨256, fun _ => 0, fun _ => 0, Nat.le_refl _, rfl, ⟨fun _ => by simp, fun _ => by simp, over_begin HA.out HDx.out HB0.out.1⟩, HO.out⟩
  case round =>
    obtain ⟨k, q, r, hk, rfl, HI, HL⟩ := hrel
    rcases Nat.eq_zero_or_pos k with rfl | hk0
    · have HE0 : Hid (Dig q ∧ Dig r ∧ V q 16 = A / B ∧ V r 16 = A % B) := by
        obtain ⟨g1, g2, Q, g3, g4, g5⟩ := HI.out
        exact ⟨g1, g2, (over_end g3 g4 g5).1, (over_end g3 g4 g5).2⟩
      have hcx := HL.out.lx.sign
      have hcy := HL.out.ly.sign
      have hcq := HL.out.lq.sign
      have hfq := HL.out.lq.free 0
      have H3 : Hid (∀ u, LongAt (wr.setCell ⟨w.heap.size + 1 + 1 + 1 + 1, 0, none⟩ (.bool u)) (w.heap.size + 1 + 1 + 1 + 1) u q ∧ LongAt (wr.setCell ⟨w.heap.size + 1 + 1 + 1 + 1, 0, none⟩ (.bool u)) (w.heap.size + 1 + 1 + 1 + 1 + 1) false r ∧ LongAt (wr.setCell ⟨w.heap.size + 1 + 1 + 1 + 1, 0, none⟩ (.bool u)) (w.heap.size + 1 + 1) false (fun _ => 0) ∧ LongAt (wr.setCell ⟨w.heap.size + 1 + 1 + 1 + 1, 0, none⟩ (.bool u)) (w.heap.size + 1 + 1 + 1) false (fun _ => 0) ∧ Below w.heap.size w (wr.setCell ⟨w.heap.size + 1 + 1 + 1 + 1, 0, none⟩ (.bool u))) :=
        fun u => ⟨flipped HL.out.lq u, HL.out.lr.other _ _ (by first | (simp; done) | (simp; omega)), HL.out.l2.other _ _ (by first | (simp; done) | (simp; omega)), HL.out.l3.other _ _ (by first | (simp; done) | (simp; omega)), HL.out.bel.setCell (by simp; omega) _⟩
      clear HI HL HO H7
      rw [show ((0 : Nat) : Int) - 1 = -1 from rfl]
      cases s <;> cases t
      all_goals
        go_wp2
        refine wp_region_any (by kernel_rfl) ?_
        change wpAny _ _ _ _ _ _ _ (World.drew _)
        refine wpAny_ready (rs := [0, 1]) (by kernel_rfl) (by simp) ?_
        refine AllReady.cons rfl (fun K hK => ?_) ?_
        · refine step_load_long rfl _ rfl (show LongAt (World.drew _) _ _ _ from (H3.out _).1) rfl ?_
          (refine hK _ _ ?_; clear hK K)
          refine wpAny_ready (rs := [1, 2]) (by kernel_rfl) (by simp) ?_
          refine AllReady.cons rfl (fun K hK => ?_) ?_
          · refine step_load_long rfl _ rfl (show LongAt (World.drew _) _ _ _ from (H3.out _).2.1) rfl ?_
            (refine hK _ _ ?_; clear hK K)
            refine wpAny_ready (rs := [2]) (by kernel_rfl) (by simp) ?_
            refine AllReady.cons rfl (fun K hK => ?_) ?_
            · refine step_store_longO rfl _ _ rfl (show LongAt (World.drew _) _ _ _ from (H3.out _).2.2.1) rfl rfl ?_
              intro w3 h3 o3 b3
              (refine hK _ _ ?_; clear hK K)
              refine wpAny_ready (rs := [3]) (by kernel_rfl) (by simp) ?_
              refine AllReady.cons rfl (fun K hK => ?_) ?_
              · refine step_store_longO rfl _ _ rfl (o3 _ _ _ (by omega) (show LongAt (World.drew _) _ _ _ from (H3.out _).2.2.2.1)) rfl rfl ?_
                intro w4 h4 o4 b4
                (refine hK _ _ ?_; clear hK K)
                refine wpAny_done (by kernel_rfl) ?_ _
                go_wp2
                refine bodyPost_ret (results_cell2 rfl _ _ _ _ _ _ rfl rfl (o4 _ _ _ (by omega) h3).loadVar h4.loadVar) rfl ?_
                exact ⟨q, r, rfl, HE0.out.1, HE0.out.2.1, HE0.out.2.2.1, HE0.out.2.2.2, b4 _ _ (b3 _ _ (H3.out _).2.2.2.2.drew (by omega)) (by omega)⟩
              exact AllReady.nil
            exact AllReady.nil
          refine AllReady.cons rfl (fun K hK => ?_) ?_
          · refine step_store_longO rfl _ _ rfl (show LongAt (World.drew _) _ _ _ from (H3.out _).2.2.1) rfl rfl ?_
            intro w3 h3 o3 b3
            (refine hK _ _ ?_; clear hK K)
            refine wpAny_ready (rs := [1]) (by kernel_rfl) (by simp) ?_
            refine AllReady.cons rfl (fun K hK => ?_) ?_
            · refine step_load_long rfl _ rfl (o3 _ _ _ (by omega) (show LongAt (World.drew _) _ _ _ from (H3.out _).2.1)) rfl ?_
              (refine hK _ _ ?_; clear hK K)
              refine wpAny_ready (rs := [3]) (by kernel_rfl) (by simp) ?_
              refine AllReady.cons rfl (fun K hK => ?_) ?_
              · refine step_store_longO rfl _ _ rfl (o3 _ _ _ (by omega) (show LongAt (World.drew _) _ _ _ from (H3.out _).2.2.2.1)) rfl rfl ?_
                intro w4 h4 o4 b4
                (refine hK _ _ ?_; clear hK K)
                refine wpAny_done (by kernel_rfl) ?_ _
                go_wp2
                refine bodyPost_ret (results_cell2 rfl _ _ _ _ _ _ rfl rfl (o4 _ _ _ (by omega) h3).loadVar h4.loadVar) rfl ?_
                exact ⟨q, r, rfl, HE0.out.1, HE0.out.2.1, HE0.out.2.2.1, HE0.out.2.2.2, b4 _ _ (b3 _ _ (H3.out _).2.2.2.2.drew (by omega)) (by omega)⟩
              exact AllReady.nil
            exact AllReady.nil
          exact AllReady.nil
        refine AllReady.cons rfl (fun K hK => ?_) ?_
        · refine step_load_long rfl _ rfl (show LongAt (World.drew _) _ _ _ from (H3.out _).2.1) rfl ?_
          (refine hK _ _ ?_; clear hK K)
          refine wpAny_ready (rs := [0]) (by kernel_rfl) (by simp) ?_
          refine AllReady.cons rfl (fun K hK => ?_) ?_
          · refine step_load_long rfl _ rfl (show LongAt (World.drew _) _ _ _ from (H3.out _).1) rfl ?_
            (refine hK _ _ ?_; clear hK K)
            refine wpAny_ready (rs := [2]) (by kernel_rfl) (by simp) ?_
            refine AllReady.cons rfl (fun K hK => ?_) ?_
            · refine step_store_longO rfl _ _ rfl (show LongAt (World.drew _) _ _ _ from (H3.out _).2.2.1) rfl rfl ?_
              intro w3 h3 o3 b3
              (refine hK _ _ ?_; clear hK K)
              refine wpAny_ready (rs := [3]) (by kernel_rfl) (by simp) ?_
              refine AllReady.cons rfl (fun K hK => ?_) ?_
              · refine step_store_longO rfl _ _ rfl (o3 _ _ _ (by omega) (show LongAt (World.drew _) _ _ _ from (H3.out _).2.2.2.1)) rfl rfl ?_
                intro w4 h4 o4 b4
                (refine hK _ _ ?_; clear hK K)
                refine wpAny_done (by kernel_rfl) ?_ _
                go_wp2
                refine bodyPost_ret (results_cell2 rfl _ _ _ _ _ _ rfl rfl (o4 _ _ _ (by omega) h3).loadVar h4.loadVar) rfl ?_
                exact ⟨q, r, rfl, HE0.out.1, HE0.out.2.1, HE0.out.2.2.1, HE0.out.2.2.2, b4 _ _ (b3 _ _ (H3.out _).2.2.2.2.drew (by omega)) (by omega)⟩
              exact AllReady.nil
            exact AllReady.nil
          exact AllReady.nil
        exact AllReady.nil
    · obtain ⟨b, rfl⟩ : ∃ b, k = b + 1 := ⟨k - 1, by omega⟩
      have em : ((b + 1 : Nat) : Int) - 1 = (b : Int) := by omega
      rw [em]
      obtain ⟨m, e, hm, he, hbe⟩ : ∃ m e, m < 16 ∧ e < 16 ∧ b = 16 * m + e := ⟨b / 16, b % 16, by omega, by omega, by omega⟩
      have em1 : (b : Int) / 16 = (m : Int) := by omega
      have em2 : (b : Int) % 16 = (e : Int) := by omega
      obtain ⟨R, eR⟩ : ∃ R, V r 16 = R := ⟨_, rfl⟩
      obtain ⟨Qv, eQ⟩ : ∃ Qv, V q 16 = Qv := ⟨_, rfl⟩
      have hI := HI.out
      rw [eR, eQ] at hI
      have HI2 : Hid (_ ∧ _ ∧ _) := hI
      have HVR : Hid (V r 16 = R) := eR
      have HVQ : Hid (V q 16 = Qv) := eQ
      have HRB : Hid (R + R < 65536 ^ 16) := by obtain ⟨_, _, Q, _, h2, _⟩ := hI; exact twice_lt h2 HB0.out.2
      have HBE : Hid (b = 16 * m + e) := hbe
      clear HI hI eR eQ hbe em
      go_wp2_with (first
        | ((with_reducible refine guard_load 61 ?_); refine wpList_load_long rfl _ rfl HL.out.lr rfl ?_)
        | ((with_reducible refine guard_store 61 ?_); refine wpList_store_longO rfl _ _ rfl (HL.out.lr.stay hb1) rfl rfl ?_; intro w2 hL2 hO2 hB2; have HL2 : Hid (OverAt w w2 s t x y q z1) := HL.out.put_r hb1 hO2 hL2 hB2; clear hL2 hO2 hB2 hb1)
        | (go_at_call 78; refine (up_ab false false r r R R _ _ _ rfl rfl HI2.out.2.1 HI2.out.2.1 HVR.out HVR.out HRB.out).mono ?_; rintro e1 w1 ⟨z1, rfl, hz1, hz2, hb1⟩; have HZ1 : Hid (Dig z1 ∧ V z1 16 = R + R) := ⟨hz1, hz2⟩; clear hz1 hz2))
      have hd0 : w2.cell? ⟨w.heap.size + 1 + 1 + 1 + 1 + 1, 1, none⟩ = some (.int .u64 (z1 0 : Int)) := HL2.out.lr.digit 0 (by omega)
      have hf0 : w2.frozen? ⟨w.heap.size + 1 + 1 + 1 + 1 + 1, 1, none⟩ = false := HL2.out.lr.free 1
      have hdx := HL2.out.lx.digit m hm
      obtain ⟨z0, ez0⟩ : ∃ v, z1 0 = v := ⟨_, rfl⟩
      obtain ⟨xm, exm⟩ : ∃ v, x m = v := ⟨_, rfl⟩
      have hz0 := HZ1.out.1 0
      have hx0 := HDx.out m
      rw [ez0] at hd0 hz0
      rw [exm] at hdx hx0
      obtain ⟨β, eβ⟩ : ∃ β, xm / 2 ^ e % 2 = β := ⟨_, rfl⟩
      have hβ : β < 2 := by rw [← eβ]; exact Nat.mod_lt _ (by omega)
      have fβ : (xm : Int) / 2 ^ e % 2 = (β : Int) := by rw [← eβ, Int.natCast_emod, Int.natCast_ediv]; simp
      have HE : Hid (z1 0 = z0 ∧ x m = xm ∧ xm / 2 ^ e % 2 = β) := ⟨ez0, exm, eβ⟩
      clear ez0 exm eβ
      have em3 : (b : Int).tmod 16 = (e : Int) := by rw [Int.tmod_eq_emod_of_nonneg (by omega)]; exact em2
      have he16 : (e : Int) < 64 := by omega
      have hwm : IntKind.i64.wrap (m : Int) = (m : Int) := by rw [wrap_i64]; omega
      have hwe : IntKind.i64.wrap (e : Int) = (e : Int) := by rw [wrap_i64]; omega
      have hm16 : (m : Int) < 16 := by omega
      obtain ⟨d0, HD0⟩ : ∃ d0, Hid (d0 = z0 + β) := ⟨_, rfl⟩
      have fw : IntKind.u64.wrap ((z0 : Int) + ((xm : Int) / 2 ^ e).tmod 2) = (d0 : Int) := by
        rw [Int.tmod_eq_emod_of_nonneg (Int.ediv_nonneg (by omega) (Int.pow_nonneg (by omega))), fβ, HD0.out, IntKind.wrap_u64]; omega
      obtain ⟨R2, HR2⟩ : ∃ R2, Hid (R2 = 2 * R + β) := ⟨_, rfl⟩
      have HLB : Hid (Dig (upd z1 0 d0) ∧ V (upd z1 0 d0) 16 = R2) := by
        have h1 := Om.low_bit (R := R) HZ1.out.1 (by rw [HZ1.out.2]; omega) hβ
        rw [HE.out.1, ← HD0.out, ← HR2.out] at h1
        exact ⟨HZ1.out.1.upd _ _ h1.1, h1.2⟩
      have HO4 : Hid (OverAt w (w2.drew.setCell ⟨w.heap.size + 1 + 1 + 1 + 1 + 1, 1, none⟩ (.int .u64 (d0 : Int))) s t x y q (upd z1 0 d0)) := HL2.out.digit_r 0 d0 (by omega)
      obtain ⟨cv, HCV⟩ : ∃ cv, Hid (cmpV R2 B = cv) := ⟨_, rfl⟩
      obtain ⟨qm, HQM⟩ : ∃ qm, Hid (q m = qm) := ⟨_, rfl⟩
      obtain ⟨P, HP⟩ : ∃ P : Nat, Hid (P = 2 ^ e) := ⟨2 ^ e, (rfl : 2 ^ e = 2 ^ e)⟩
      obtain ⟨dq, HDQ⟩ : ∃ dq, Hid (dq = qm + P) := ⟨_, rfl⟩
      have HRO : Hid (qm + P < 65536) := by
        obtain ⟨g1, g2, Q, g3, g4, g5⟩ := HI2.out
        show _ < _
        rw [← HQM.out, HP.out]
        exact Om.room g1 hm he (HVQ.out.trans (by rw [g5, HBE.out]))
      have fs0 : ((2 : Int) ^ e) = (P : Int) := by rw [HP.out]; simp
      have fs1 : IntKind.u64.wrap ((2 : Int) ^ e) = (P : Int) := by have := HRO.out; rw [fs0, IntKind.wrap_u64]; omega
      have fs2 : IntKind.u64.wrap (1 * (2 : Int) ^ e) = (P : Int) := by rw [Int.one_mul]; exact fs1
      have fs3 : IntKind.u64.wrap ((qm : Int) + (P : Int)) = (dq : Int) := by have := HRO.out; rw [HDQ.out, IntKind.wrap_u64]; omega
      clear fs0
      by_cases hcv : 0 ≤ cv
      · have HGE : Hid (B ≤ R2) := cmp_ge (by rw [HCV.out]; exact hcv)
        go_region
        all_goals
          go_wp2_with (first
            | ((with_reducible refine guard_load 61 ?_); first | refine wpList_load_long rfl _ rfl HO5.out.lr rfl ?_ | refine wpList_load_long rfl _ rfl HO5.out.lz rfl ?_ | refine wpList_load_long rfl _ rfl HO4.out.lr rfl ?_ | refine wpList_load_long rfl _ rfl HO4.out.lz rfl ?_)
            | ((with_reducible refine guard_store 61 ?_); refine wpList_store_longO rfl _ _ rfl (HO5.out.lr.stay hb6) rfl rfl ?_; intro w7 hL7 hO7 hB7; have HO7 : Hid (OverAt w w7 s t x y q z3) := HO5.out.put_r hb6 hO7 hL7 hB7; clear hL7 hO7 hB7 hb6)
            | (go_at_call 40; refine (cmp_ab false false (upd z1 0 d0) y R2 B cv _ _ _ rfl rfl HLB.out.1 HDy.out HLB.out.2 HB.out HCV.out).mono ?_; rintro e5 w5 ⟨rfl, hb5⟩; have HO5 : Hid (OverAt w w5 s t x y q (upd z1 0 d0)) := HO4.out.stay hb5; clear hb5)
            | (go_at_call 79; refine (down_ab false false (upd z1 0 d0) y R2 B _ _ _ rfl rfl HLB.out.1 HDy.out HLB.out.2 HB.out HGE.out).mono ?_; rintro e6 w6 ⟨z3, rfl, hz5, hz6, hb6⟩; have HZ3 : Hid (Dig z3 ∧ V z3 16 + B = R2) := ⟨hz5, hz6⟩; clear hz5 hz6))
          have hdq := HO7.out.lq.digit m hm
          have hfq := HO7.out.lq.free (1 + m)
          rw [HQM.out] at hdq
          go_region
          all_goals
            go_wp2
            go_round
            case rel =>
              obtain ⟨g1, g2, Q, g3, g4, g5⟩ := HI2.out
              refine ⟨b, upd q m dq, z3, by omega, by go_num, ⟨g1.upd _ _ (by rw [HDQ.out]; exact HRO.out), HZ3.out.1, 2 * Q + 1, ?_, ?_, ?_⟩, ?_⟩
              · exact over_ge (over_next HA.out HDx.out HBE.out hm he HE.out.2.1 HE.out.2.2 g3 HR2.out) HZ3.out.2
              · exact over_rest g4 hβ HR2.out HZ3.out.2
              · rw [HDQ.out, HP.out, ← HQM.out, HBE.out]
                exact Om.set_bit hm (HVQ.out.trans (by rw [g5, HBE.out]))
              · exact HO7.out.digit_q m dq hm
            case measure => first | (simp [intOf]; done) | (simp [intOf]; omega)
      · have HLT : Hid (R2 < B) := cmp_lt' (by rw [HCV.out]; exact hcv)
        go_region
        all_goals
          go_wp2_with (first
            | ((with_reducible refine guard_load 61 ?_); first | refine wpList_load_long rfl _ rfl HO4.out.lr rfl ?_ | refine wpList_load_long rfl _ rfl HO4.out.lz rfl ?_)
            | (go_at_call 40; refine (cmp_ab false false (upd z1 0 d0) y R2 B cv _ _ _ rfl rfl HLB.out.1 HDy.out HLB.out.2 HB.out HCV.out).mono ?_; rintro e5 w5 ⟨rfl, hb5⟩; have HO5 : Hid (OverAt w w5 s t x y q (upd z1 0 d0)) := HO4.out.stay hb5; clear hb5))
          go_round
          case rel =>
            obtain ⟨g1, g2, Q, g3, g4, g5⟩ := HI2.out
            refine ⟨b, q, upd z1 0 d0, by omega, by go_num, ⟨g1, HLB.out.1, 2 * Q, ?_, ?_, ?_⟩, HO5.out⟩
            · exact (over_next HA.out HDx.out HBE.out hm he HE.out.2.1 HE.out.2.2 g3 HR2.out).trans (congrArg _ HLB.out.2.symm)
            · exact Nat.lt_of_le_of_lt (Nat.le_of_eq HLB.out.2) HLT.out
            · rw [HBE.out]
              exact Om.no_bit (HVQ.out.trans (by rw [g5, HBE.out]))
          case measure => first | (simp [intOf]; done) | (simp [intOf]; omega)
end Go.Proofs.YtblfmfanfpohbaaGreat
