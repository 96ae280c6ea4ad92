/- slices' insertion sort, over a row of places. -/
import Derived.Test.YtblfmfanfpohbaaGreatNsb
namespace Go.Proofs.YtblfmfanfpohbaaGreat
open Go.ChangeShapes Go.WideShapes Go.ChangeAt Go.RowKit Go.Sort
/-- what the closure answers of two places: the greater key goes first -/
def cfk (k : Nat → Nat) (x y : Nat) : Int := if k y < k x then -1 else if k x < k y then 1 else 0
theorem cfk_neg (k : Nat → Nat) (x y : Nat) : cfk k x y < 0 ↔ k y < k x := by
  unfold cfk
  split
  · simp; assumption
  · split <;> simp <;> omega
/-- the closure's contract, whatever the row holds -/
def CmpR (w : World) (b N g : Nat) (cb : Array Value) (k : Nat → Nat) : Prop := ∀ (X : Array Nat) (x y q : Nat), X.size = N → x < N → y < N →
  Calls Tryz.prog g (#[.int .i64 x, .int .i64 y] ++ cb) (rowW w b X q) fun e w' => e = .returned (.int .i64 (cfk k x y)) ∧ ∃ n, w' = (rowW w b X q).drewN n
theorem rowW_drewN (w : World) (b : Nat) (d : Array Nat) (q n : Nat) : (rowW w b d q).drewN n = rowW w b d (q + n) := World.drewN_drewN _ _ _
theorem CmpR.at {w : World} {b N g : Nat} {cb : Array Value} {k : Nat → Nat} (h : CmpR w b N g cb k) (X : Array Nat) (x y m : Nat) (h1 : X.size = N) (h2 : x < N) (h3 : y < N) (n : Nat) :
    Calls Tryz.prog g (#[.int .i64 x, .int .i64 y] ++ cb) ((rowW w b X m).drewN n) fun e w' => e = .returned (.int .i64 (cfk k x y)) ∧ ∃ q, w' = ((rowW w b X m).drewN n).drewN q := by
  have := h X x y (m + n) h1 h2 h3
  rw [← rowW_drewN] at this
  exact this
set_option maxRecDepth 20000 in
set_option maxHeartbeats 4000000 in
theorem insort_any (k : Nat → Nat) (a c q cap N : Nat) (cb : Array Value) (d d0 : Array Nat) (w : World) (b : Nat) (hH : Hid (Holds eN w b 0 d0)) (hN : d0.size = N) (hd : d.size = N) (hN2 : N ≤ 64) (hac : a ≤ c) (hc : c ≤ N)
    (HC : Hid (CmpR w b N 83 cb k)) (HB : Hid (Bnd d ∧ Stb k d)) :
    Calls Tryz.prog 114 #[.slice (some ⟨b, 0, none⟩) N cap, .int .i64 a, .int .i64 c, .func (.func 83) #[] cb] (rowW w b d q) fun e w' => e = .returned (.tuple #[]) ∧ ∃ d', (Mv a c d d' ∧ Srt k a c d' ∧ Stb k d') ∧ ∃ q', w' = rowW w b d' q' := by
  have HD : Hid (d.size = N ∧ d0.size = N) := ⟨hd, hN⟩
  clear hd hN
  go_enter Tryz.func114, Tryz.ntmps114
  go_wp2
  go_loopw [8] (fun vi wr => ∃ (i q' : Nat) (dk : Array Nat), vi = .int .i64 i ∧ a < i ∧ i ≤ c + 1 ∧ Hid (dk.size = N ∧ Mv a c d dk ∧ Srt k a i dk ∧ Stb k dk) ∧ wr = rowW w b dk q') (fun vi _ => c + 1 - (intOf vi).toNat)
  case atStart => exact ⟨a + 1, q, d, by go_num, by omega, by omega, ⟨HD.out.1, Mv.refl _ _ _, srt_one _ _ _ _ (Nat.le_refl _), HB.out.2⟩, rfl⟩
  case round =>
    obtain ⟨i, q', dk, rfl, hai, hic, HS, rfl⟩ := hrel
    by_cases hlt : i < c
    · have hltz : (i : Int) < (c : Int) := by omega
      go_wp2
      go_loopw [9] (fun vj wr2 => ∃ (j m : Nat) (dj : Array Nat), vj = .int .i64 j ∧ a ≤ j ∧ j ≤ i ∧ Hid (dj.size = N ∧ Mv a c d dj ∧ InsA k a j i dj ∧ Stb k dj) ∧ wr2 = rowW w b dj m) (fun vj _ => (intOf vj).toNat)
      case atStart => exact ⟨i, q', dk, rfl, by omega, Nat.le_refl _, ⟨HS.out.1, HS.out.2.1, InsA.start HS.out.2.2.1, HS.out.2.2.2⟩, rfl⟩
      case round =>
        obtain ⟨j, m, dj, rfl, haj, hji, HI, rfl⟩ := hrel
        clear HS
        by_cases hja : a < j
        · obtain ⟨jp, hjp⟩ : ∃ jp, j = jp + 1 := ⟨j - 1, by omega⟩
          have hjz : (j : Int) - 1 = (jp : Int) := by omega
          have hwp : IntKind.i64.wrap (jp : Int) = (jp : Int) := by rw [IntKind.wrap_i64]; omega
          have hjaz : (a : Int) < (j : Int) := by omega
          have hjN : (j : Int) < (N : Int) := by omega
          have hjpN : (jp : Int) < (N : Int) := by omega
          obtain ⟨cj, fj⟩ := rowW_cell hH.out (by rw [HI.out.1]; exact HD.out.2.symm) m j (d := dj) (by rw [HI.out.1]; omega)
          obtain ⟨cp, fp⟩ := rowW_cell hH.out (by rw [HI.out.1]; exact HD.out.2.symm) m jp (d := dj) (by rw [HI.out.1]; omega)
          obtain ⟨X, eX⟩ : ∃ X, dj[j]! = X := ⟨_, rfl⟩
          obtain ⟨Y, eY⟩ : ∃ Y, dj[jp]! = Y := ⟨_, rfl⟩
          rw [eX] at cj
          rw [eY] at cp
          have hbn := HI.out.2.1.bnd (by rw [HD.out.1]; exact hc) HB.out.1
          have hXN : X < N := by have := hbn j (by rw [HI.out.1]; omega); rw [HI.out.1, eX] at this; exact this
          have hYN : Y < N := by have := hbn jp (by rw [HI.out.1]; omega); rw [HI.out.1, eY] at this; exact this
          have hcall := HC.out.at dj X Y m HI.out.1 hXN hYN
          obtain ⟨v, ev⟩ : ∃ v, cfk k X Y = v := ⟨_, rfl⟩
          have hvn := cfk_neg k X Y
          rw [ev] at hvn hcall
          have HE : Hid (dj[j]! = X ∧ dj[jp]! = Y ∧ (v < 0 ↔ k Y < k X) ∧ j = jp + 1) := ⟨eX, eY, hvn, hjp⟩
          clear eX eY hvn hjp hbn hXN hYN ev
          generalize hwq : rowW w b dj m = wq at cj cp fj fp hcall ⊢
          have HW : Hid (rowW w b dj m = wq) := hwq
          clear hwq
          by_cases hlv : v < 0
          · go_wp2_with fail
            go_quiet (first | (go_at_call 83; refine Calls.quiet_of (hcall _)))
            go_wp2_with fail
            have hw2 : wq.drewN nq = rowW w b dj (m + nq) := by rw [← HW.out, rowW_drewN]
            have cj2 : (wq.drewN nq).cell? ⟨b, j, none⟩ = some (.int .i64 X) := cj
            have cp2 : (wq.drewN nq).cell? ⟨b, jp, none⟩ = some (.int .i64 Y) := cp
            have fj2 : (wq.drewN nq).frozen? ⟨b, j, none⟩ = false := fj
            have fp2 : (wq.drewN nq).frozen? ⟨b, jp, none⟩ = false := fp
            clear cj cp fj fp hcall
            generalize wq.drewN nq = wq2 at hw2 cj2 cp2 fj2 fp2 ⊢
            have HW2 : Hid (wq2 = rowW w b dj (m + nq)) := hw2
            have hjj : j ≠ jp := by have := HE.out; omega
            clear hw2
            go_region
            all_goals
              go_wp2
              go_roundw
              case rel =>
                obtain ⟨e1, e2, e3, e4⟩ := HE.out
                obtain ⟨i1, i2, i3, i4⟩ := HI.out
                subst e4
                refine ⟨jp, m + nq + 1, swp dj (jp + 1) jp, by first | rfl | go_num, by omega, by omega, ⟨by rw [size_swp]; exact i1, i2.trans (swp_mv dj (by omega) (by omega) (by omega) (by omega) (by omega)), i3.step (by rw [e1, e2]; exact e3.1 hlv) (by omega) hji (by omega), swp_stb i4 (by omega) (by rw [e1, e2]; exact e3.1 hlv)⟩, ?_⟩
                rw [HW2.out, ← e1, ← e2]
                exact rowW_swp w b dj (m + nq) (jp + 1) jp (by omega) (by omega)
              case measure => have := HE.out; first | (simp [intOf]; done) | (simp [intOf]; omega)
          · go_wp2_with fail
            go_quiet (first | (go_at_call 83; refine Calls.quiet_of (hcall _)))
            go_wp2
            go_roundw
            case rel =>
              obtain ⟨e1, e2, e3, e4⟩ := HE.out
              obtain ⟨i1, i2, i3, i4⟩ := HI.out
              refine ⟨i + 1, m + nq, dj, by go_num, by omega, by omega, ⟨i1, i2, i3.stop (.inr ?_) haj, i4⟩, by rw [← HW.out, rowW_drewN]⟩
              have : ¬ k Y < k X := fun h => by have := e3.2 h; omega
              rw [show j - 1 = jp from by omega, e1, e2]; omega
            case measure => first | (simp [intOf]; done) | (simp [intOf]; omega)
        · have hjaz : decide ((j : Int) > (a : Int)) = false := decide_eq_false (by omega)
          have hjaz' : ¬ (a : Int) < (j : Int) := by omega
          generalize hwq : rowW w b dj m = wq
          have HW : Hid (rowW w b dj m = wq) := hwq
          clear hwq
          go_wp2_with fail
          go_quiet (fail)
          go_wp2
          go_roundw
          case rel =>
            obtain ⟨i1, i2, i3, i4⟩ := HI.out
            exact ⟨i + 1, m + nq, dj, by go_num, by omega, by omega, ⟨i1, i2, i3.stop (.inl (by omega)) haj, i4⟩, by rw [← HW.out, rowW_drewN]⟩
          case measure => first | (simp [intOf]; done) | (simp [intOf]; omega)
    · have hltz : ¬ (i : Int) < (c : Int) := by omega
      go_wp2
      go_end0
      obtain ⟨i1, i2, i3, i4⟩ := HS.out
      exact ⟨rfl, dk, ⟨i2, i3.sub (Nat.le_refl _) (by omega), i4⟩, q', rfl⟩
end Go.Proofs.YtblfmfanfpohbaaGreat
