/- slices' swapRange and rotate, over a row of numbers. -/
import Derived.Test.YtblfmfanfpohbaaGreatNsa
import Derived.Test.YtblfmfanfpohbaaGreatInts
import Derived.Sort.WalkC
import Derived.Deep.LoopGhost
import Derived.Deep.QuietTactic
import Derived.BigQuiet
import Derived.BigRegion
namespace Go.Proofs.YtblfmfanfpohbaaGreat
open Go.ChangeShapes Go.WideShapes Go.ChangeAt Go.RowKit Go.Sort
abbrev eN (i : Nat) : Value := .int .i64 (i : Int)
/-- the row's world: block b holds d, all else is w's, some draws on -/
abbrev rowW (w : World) (b : Nat) (d : Array Nat) (q : Nat) : World := (putRow eN w b 0 d).drewN q
theorem rowW_cell {w : World} {b : Nat} {d0 d : Array Nat} (hH : Holds eN w b 0 d0) (hs : d.size = d0.size) (q j : Nat) (hj : j < d.size) :
    (rowW w b d q).cell? ⟨b, j, none⟩ = some (.int .i64 (d[j]! : Nat)) ∧ (rowW w b d q).frozen? ⟨b, j, none⟩ = false := by
  have h := holds_putRow eN w b 0 d0 d hH hs j hj
  rw [Nat.zero_add] at h
  exact h
theorem rowW_swp (w : World) (b : Nat) (d : Array Nat) (q i j : Nat) (hi : i < d.size) (hj : j < d.size) :
    ((((rowW w b d q).setCell ⟨b, i, none⟩ (.int .i64 (d[j]! : Nat))).setCell ⟨b, j, none⟩ (.int .i64 (d[i]! : Nat))).drew) = rowW w b (swp d i j) (q + 1) := by
  have h := swap_worldC eN w b 0 d q i j hi hj
  rw [Nat.zero_add, Nat.zero_add] at h
  exact h
set_option maxRecDepth 20000 in
set_option maxHeartbeats 2000000 in
theorem swr_any (a c n q cap N g : Nat) (cb : Array Value) (d d0 : Array Nat) (w : World) (b : Nat) (hH : Hid (Holds eN w b 0 d0)) (hN : d0.size = N) (hd : d.size = N) (hN2 : N ≤ 64) (hab : a + n ≤ c) (hc : c + n ≤ N) :
    Calls Tryz.prog 123 #[.slice (some ⟨b, 0, none⟩) N cap, .int .i64 a, .int .i64 c, .int .i64 n, .func (.func g) #[] cb] (rowW w b d q) fun e w' => e = .returned (.tuple #[]) ∧ ∃ d' q', SwR a c n d d' ∧ w' = rowW w b d' q' := by
  have HD : Hid (d.size = N ∧ d0.size = N) := ⟨hd, hN⟩
  clear hd hN
  go_enter Tryz.func123, Tryz.ntmps123
  go_wp2
  go_loopw [10] (fun vi wr => ∃ (k q' : Nat) (dk : Array Nat), k ≤ n ∧ vi = .int .i64 k ∧ Hid (SwR a c k d dk) ∧ wr = rowW w b dk q') (fun vi _ => n - (intOf vi).toNat)
  case atStart => exact ⟨0, q, d, Nat.zero_le _, rfl, SwR.zero a c d, rfl⟩
  case round =>
    obtain ⟨k, q', dk, hk, rfl, HS, rfl⟩ := hrel
    have hsz : dk.size = N := by rw [HS.out.size]; exact HD.out.1
    by_cases hkn : k < n
    · obtain ⟨x, hx⟩ : ∃ x, x = a + k := ⟨_, rfl⟩
      obtain ⟨y, hy⟩ : ∃ y, y = c + k := ⟨_, rfl⟩
      obtain ⟨cx, fx⟩ := rowW_cell hH.out (by rw [hsz]; exact HD.out.2.symm) q' x (d := dk) (by omega)
      obtain ⟨cy, fy⟩ := rowW_cell hH.out (by rw [hsz]; exact HD.out.2.symm) q' y (d := dk) (by omega)
      have hxz : (a : Int) + (k : Int) = (x : Int) := by omega
      have hyz : (c : Int) + (k : Int) = (y : Int) := by omega
      have hxN : (x : Int) < (N : Int) := by omega
      have hyN : (y : Int) < (N : Int) := by omega
      have hxy : x ≠ y := by omega
      have HX : Hid (x = a + k ∧ y = c + k ∧ dk.size = N) := ⟨hx, hy, hsz⟩
      obtain ⟨X, eX⟩ : ∃ X, dk[x]! = X := ⟨_, rfl⟩
      obtain ⟨Y, eY⟩ : ∃ Y, dk[y]! = Y := ⟨_, rfl⟩
      rw [eX] at cx
      rw [eY] at cy
      have HE : Hid (dk[x]! = X ∧ dk[y]! = Y) := ⟨eX, eY⟩
      clear hx hy hsz eX eY
      generalize hwq : rowW w b dk q' = wq at cx cy fx fy ⊢
      have HW : Hid (rowW w b dk q' = wq) := hwq
      clear hwq
      go_wp2
      go_region
      all_goals
        go_wp2
        go_roundw
        case rel =>
          refine ⟨k + 1, q' + 1, swp dk x y, by omega, by go_num, ?_, ?_⟩
          · have e1 := HX.out.1
            have e2 := HX.out.2.1
            have e3 := HX.out.2.2
            subst e1 e2
            exact HS.out.next (by omega) (by rw [HD.out.1]; omega)
          · rw [← HW.out, ← HE.out.1, ← HE.out.2]
            exact rowW_swp w b dk q' x y (by rw [HX.out.2.2]; omega) (by rw [HX.out.2.2]; omega)
        case measure => first | (simp [intOf]; done) | (simp [intOf]; omega)
    · obtain rfl : k = n := by omega
      go_wp2
      go_end0
      exact ⟨rfl, dk, q', HS.out, rfl⟩
set_option maxRecDepth 20000 in
set_option maxHeartbeats 2000000 in
theorem rotate_any (a m c q cap N g : Nat) (cb : Array Value) (d d0 : Array Nat) (w : World) (b : Nat) (hH : Hid (Holds eN w b 0 d0)) (hN : d0.size = N) (hd : d.size = N) (hN2 : N ≤ 64) (ham : a < m) (hmc : m < c) (hc : c ≤ N) :
    Calls Tryz.prog 121 #[.slice (some ⟨b, 0, none⟩) N cap, .int .i64 a, .int .i64 m, .int .i64 c, .func (.func g) #[] cb] (rowW w b d q) fun e w' => e = .returned (.tuple #[]) ∧ ∃ d' q', Rot a m c d d' ∧ w' = rowW w b d' q' := by
  have HD : Hid (d.size = N ∧ d0.size = N) := ⟨hd, hN⟩
  clear hd hN
  obtain ⟨i0, hi0⟩ : ∃ x, x = m - a := ⟨_, rfl⟩
  obtain ⟨j0, hj0⟩ : ∃ x, x = c - m := ⟨_, rfl⟩
  have hi0z : (m : Int) - (a : Int) = (i0 : Int) := by omega
  have hj0z : (c : Int) - (m : Int) = (j0 : Int) := by omega
  have H0 : Hid (∀ f, Rot (m - i0) m (m + j0) d f → Rot a m c d f) := fun f hf => by
    rw [show m - i0 = a from by omega, show m + j0 = c from by omega] at hf
    exact hf
  have HI : Hid (i0 = m - a ∧ j0 = c - m) := ⟨hi0, hj0⟩
  clear hi0 hj0
  go_enter Tryz.func121, Tryz.ntmps121
  go_wp2
  go_loopw [10, 11] (fun vi vj wr => ∃ (i j q' : Nat) (dk : Array Nat), 0 < i ∧ 0 < j ∧ i ≤ m ∧ m + j ≤ N ∧ vi = .int .i64 i ∧ vj = .int .i64 j ∧ Hid (dk.size = N ∧ ∀ f, Rot (m - i) m (m + j) dk f → Rot a m c d f) ∧ wr = rowW w b dk q') (fun vi vj _ => (intOf vi).toNat + (intOf vj).toNat)
  case atStart => exact ⟨i0, j0, q, d, by have := HI.out; omega, by have := HI.out; omega, by have := HI.out; omega, by have := HI.out; omega, rfl, rfl, ⟨HD.out.1, H0.out⟩, rfl⟩
  case round =>
    obtain ⟨i, j, q', dk, hi, hj, him, hjN, rfl, rfl, HS, rfl⟩ := hrel
    obtain ⟨x, hx⟩ : ∃ x, x = m - i := ⟨_, rfl⟩
    have hxz : (m : Int) - (i : Int) = (x : Int) := by omega
    have HX : Hid (x = m - i) := hx
    clear hx
    rcases Nat.lt_trichotomy i j with hij | hij | hij
    · have hne : ((i : Int) != (j : Int)) = true := by simp; omega
      have hgt : ¬ (j : Int) < (i : Int) := by omega
      obtain ⟨y, hy⟩ : ∃ y, y = m + j - i := ⟨_, rfl⟩
      have hyz : (m : Int) + (j : Int) - (i : Int) = (y : Int) := by omega
      obtain ⟨z, hz⟩ : ∃ z, z = j - i := ⟨_, rfl⟩
      have hzz : (j : Int) - (i : Int) = (z : Int) := by omega
      have HY : Hid (y = m + j - i ∧ z = j - i) := ⟨hy, hz⟩
      clear hy hz
      go_wp2_with (first
        | (go_at_call 123; refine (swr_any x y i q' cap N g cb dk d0 w b hH HD.out.2 HS.out.1 hN2 (by have := HX.out; have := HY.out; omega) (by have := HX.out; have := HY.out; omega)).mono ?_; rintro e w' ⟨rfl, d', q2, hs, rfl⟩; have HS2 : Hid (SwR x y i dk d') := hs; clear hs))
      go_roundw
      case rel =>
        refine ⟨i, z, q2, d', hi, by have := HY.out; omega, him, by have := HY.out; omega, rfl, by go_num, ⟨HS2.out.size.trans HS.out.1, fun f hf => HS.out.2 f ?_⟩, rfl⟩
        have e1 := HX.out
        obtain ⟨e2, e3⟩ := HY.out
        subst e1 e2 e3
        exact rot_right him hij HS2.out hf
      case measure => have := HY.out; first | (simp [intOf]; done) | (simp [intOf]; omega)
    · subst hij
      have hne : ((i : Int) != (i : Int)) = false := by simp
      go_wp2_with (first
        | (go_at_call 123; refine (swr_any x m i q' cap N g cb dk d0 w b hH HD.out.2 HS.out.1 hN2 (by have := HX.out; omega) (by have := HX.out; omega)).mono ?_; rintro e w' ⟨rfl, d', q2, hs, rfl⟩; have HS2 : Hid (SwR x m i dk d') := hs; clear hs))
      go_end0
      have e1 := HX.out
      subst e1
      exact ⟨rfl, d', q2, HS.out.2 _ (rot_end him HS2.out), rfl⟩
    · have hne : ((i : Int) != (j : Int)) = true := by simp; omega
      have hgt : (j : Int) < (i : Int) := by omega
      obtain ⟨z, hz⟩ : ∃ z, z = i - j := ⟨_, rfl⟩
      have hzz : (i : Int) - (j : Int) = (z : Int) := by omega
      have HY : Hid (z = i - j) := hz
      clear hz
      go_wp2_with (first
        | (go_at_call 123; refine (swr_any x m j q' cap N g cb dk d0 w b hH HD.out.2 HS.out.1 hN2 (by have := HX.out; omega) (by have := HX.out; omega)).mono ?_; rintro e w' ⟨rfl, d', q2, hs, rfl⟩; have HS2 : Hid (SwR x m j dk d') := hs; clear hs))
      go_roundw
      case rel =>
        refine ⟨z, j, q2, d', by have := HY.out; omega, hj, by have := HY.out; omega, hjN, by go_num, rfl, ⟨HS2.out.size.trans HS.out.1, fun f hf => HS.out.2 f ?_⟩, rfl⟩
        have e1 := HX.out
        have e3 := HY.out
        subst e1 e3
        exact rot_left him hij HS2.out hf
      case measure => have := HY.out; first | (simp [intOf]; done) | (simp [intOf]; omega)
end Go.Proofs.YtblfmfanfpohbaaGreat
