/- What the reference's Cmp and Fits answer. -/
import Derived.Test.YtblfmfanfpohbaaGreatLong
namespace Go.Proofs.YtblfmfanfpohbaaGreat
open Go.ChangeShapes Go.WideShapes Go.ChangeAt Go.RowKit
def cmpV (X Y : Nat) : Int := if X < Y then -1 else if Y < X then 1 else 0
theorem V_lt_at {x y : Nat → Nat} {k : Nat} (hx : Dig x) (h : x k < y k) : V x (k + 1) < V y (k + 1) := by
  rw [V, V]
  have h1 := V_lt x k hx
  have h2 : (x k + 1) * 65536 ^ k ≤ y k * 65536 ^ k := Nat.mul_le_mul_right _ h
  rw [Nat.add_mul, Nat.one_mul] at h2
  omega
theorem V_lt_up {x y : Nat → Nat} {k n : Nat} (h : V x k < V y k) (he : ∀ j, k ≤ j → j < n → x j = y j) (hn : k ≤ n) : V x n < V y n := by
  obtain ⟨m, rfl⟩ : ∃ m, n = k + m := ⟨n - k, by omega⟩
  induction m with
  | zero => exact h
  | succ m ih =>
    have := ih (fun j h1 h2 => he j h1 (by omega)) (by omega)
    rw [← Nat.add_assoc, V, V, he (k + m) (by omega) (by omega)]
    omega
theorem cmp_lt {x y : Nat → Nat} {k : Nat} (hx : Dig x) (hk : k < 16) (he : ∀ j, k < j → j < 16 → x j = y j) (h : x k < y k) : cmpV (V x 16) (V y 16) = -1 := by
  have := V_lt_up (V_lt_at hx h) (fun j h1 h2 => he j (by omega) h2) (show k + 1 ≤ 16 by omega)
  unfold cmpV; rw [if_pos this]
theorem cmp_gt {x y : Nat → Nat} {k : Nat} (hy : Dig y) (hk : k < 16) (he : ∀ j, k < j → j < 16 → x j = y j) (h : y k < x k) : cmpV (V x 16) (V y 16) = 1 := by
  have := V_lt_up (V_lt_at hy h) (fun j h1 h2 => (he j (by omega) h2).symm) (show k + 1 ≤ 16 by omega)
  unfold cmpV; rw [if_neg (by omega), if_pos this]
theorem cmp_eq {x y : Nat → Nat} (he : ∀ j, j < 16 → x j = y j) : cmpV (V x 16) (V y 16) = 0 := by
  rw [V_congr x y 16 he]; unfold cmpV; rw [if_neg (by omega), if_neg (by omega)]
theorem lay2b (w : World) (b c : Bool) (x y : Nat → Nat) : LongAt ((w.alloc (.cells (LA b x) 61)).alloc (.cells (LA c y) 61)) w.heap.size b x ∧ LongAt ((w.alloc (.cells (LA b x) 61)).alloc (.cells (LA c y) 61)) (w.heap.size + 1) c y ∧ Below w.heap.size w ((w.alloc (.cells (LA b x) 61)).alloc (.cells (LA c y) 61)) := by
  refine ⟨?_, ?_, bel2 _ _ _⟩ <;> (unfold LongAt; simp only [World.alloc, Array.getElem?_push, Array.size_push]; simp)
set_option maxRecDepth 20000 in
set_option maxHeartbeats 1000000 in
theorem cmp_any (b c : Bool) (x y : Nat → Nat) (w : World) (hx : Dig x) (hy : Dig y) :
    Calls Tryz.prog 40 #[.agg (LA b x), .agg (LA c y)] w fun e w' => e = .returned (.int .i64 (cmpV (V x 16) (V y 16))) ∧ Below w.heap.size w w' := by
  obtain ⟨X, hX⟩ : ∃ X, LA b x = X := ⟨_, rfl⟩
  obtain ⟨Y, hY⟩ : ∃ Y, LA c y = Y := ⟨_, rfl⟩
  have HX : Hid (_ = _) := hX
  have HY : Hid (_ = _) := hY
  have HD : Hid (Dig x ∧ Dig y) := ⟨hx, hy⟩
  rw [hX, hY]
  have hsx : X.size = 17 := by rw [← hX]; rfl
  have hsy : Y.size = 17 := by rw [← hY]; rfl
  clear hX hY hx hy
  go_enter Tryz.func40, Tryz.ntmps40
  go_wp2
  go_loopw [5] (fun vi wr => ∃ k : Nat, k ≤ 16 ∧ vi = .int .i64 ((k : Int) - 1) ∧ Hid (∀ j, k ≤ j → j < 16 → x j = y j) ∧ Hid (LongAt wr w.heap.size b x ∧ LongAt wr (w.heap.size + 1) c y ∧ Below w.heap.size w wr)) (fun vi _ => (intOf vi + 1).toNat)
  case atStart => exact ⟨16, Nat.le_refl _, rfl, fun j h1 h2 => by omega, by rw [← HX.out, ← HY.out]; exact lay2b w b c x y⟩
  case round =>
    obtain ⟨k, hk, rfl, HI, HL⟩ := hrel
    rcases Nat.eq_zero_or_pos k with rfl | hk0
    · have HE : Hid (_ = _) := cmp_eq (x := x) (y := y) fun j hj => HI.out j (Nat.zero_le _) hj
      go_wp2
      go_ret
      exact ⟨ret_int HE.out.symm, HL.out.2.2⟩
    · obtain ⟨m, rfl⟩ : ∃ m, k = m + 1 := ⟨k - 1, by omega⟩
      have em : ((m + 1 : Nat) : Int) - 1 = (m : Int) := by omega
      rw [em]
      have hm : m < 16 := by omega
      have hcx := HL.out.1.digit m hm
      have hcy := HL.out.2.1.digit m hm
      obtain ⟨xm, exm⟩ : ∃ v, x m = v := ⟨_, rfl⟩
      obtain ⟨ym, eym⟩ : ∃ v, y m = v := ⟨_, rfl⟩
      rw [exm] at hcx
      rw [eym] at hcy
      have HE : Hid (x m = xm ∧ y m = ym) := ⟨exm, eym⟩
      clear exm eym em
      rcases Nat.lt_trichotomy xm ym with hlt | rfl | hgt
      · have HR : Hid (_ = _) := cmp_lt HD.out.1 hm (fun j h1 h2 => HI.out j (by omega) h2) (by rw [HE.out.1, HE.out.2]; exact hlt)
        go_wp2
        go_quiet (fail)
        go_wp2
        go_ret
        exact ⟨ret_int HR.out.symm, below_drewN HL.out.2.2 _⟩
      · go_wp2
        go_quiet (fail)
        go_wp2
        go_quiet (fail)
        go_wp2
        go_round
        case rel =>
          refine ⟨m, by omega, by go_num, fun j h1 h2 => ?_, ?_⟩
          · by_cases hj : j = m
            · subst hj; rw [HE.out.1, HE.out.2]
            · exact HI.out j (by omega) h2
          · obtain ⟨l1, l2, l3⟩ := HL.out
            exact ⟨l1, l2, below_drewN l3 _⟩
        case measure => first | (simp [intOf]; done) | (simp [intOf]; omega)
      · have HR : Hid (_ = _) := cmp_gt HD.out.2 hm (fun j h1 h2 => HI.out j (by omega) h2) (by rw [HE.out.1, HE.out.2]; exact hgt)
        go_wp2
        go_quiet (fail)
        go_wp2
        go_quiet (fail)
        go_wp2
        go_ret
        exact ⟨ret_int HR.out.symm, below_drewN (below_drewN HL.out.2.2 _) _⟩
end Go.Proofs.YtblfmfanfpohbaaGreat
