/- What the reference's Seek answers. -/
import Derived.Test.YtifackbilmkjlaaMkK
namespace Go.Proofs.Ytifackbilmkjlaa
open Go.ChangeShapes Go.WideShapes Go.ChangeAt Go.RowKit
set_option linter.unusedVariables false
theorem mk_other {w : World} {k m : Nat} {s y : Int} (h : MkAt w k s y) (hk : k ≠ m) (j : Nat) (u : Value) : MkAt (w.setCell ⟨m, j, none⟩ u) k s y := (heap_setCell_other w ⟨m, j, none⟩ k u hk).trans h
set_option maxRecDepth 20000 in
set_option maxHeartbeats 2000000 in
theorem rseek_any (L : List Mk) (n : Nat) (a : Option Addr) (cap : Nat) (seq : Int) (w : World) (hn : L.length = n) (hm : Marks w a L) (hl : n ≤ 140737488351232) :
    Calls Try.prog 19 #[.slice a n cap, .int .i64 seq] w fun e w' => e = .returned (SkV (seekR seq L)) ∧ Below w.heap.size w w' := by
  have HN : Hid (L.length = n) := hn
  have HM : Hid (Marks w a L) := hm
  have hnI : (n : Int) ≤ 140737488351232 := by omega
  clear hn hm
  have HA : Hid (MkAt ((w.alloc (.cells #[.int .i64 0, .int .i64 0] 34)).alloc (.cells #[.int .i64 0, .int .i64 0] 34)) w.heap.size 0 0 ∧ MkAt ((w.alloc (.cells #[.int .i64 0, .int .i64 0] 34)).alloc (.cells #[.int .i64 0, .int .i64 0] 34)) (w.heap.size + 1) 0 0 ∧ Below w.heap.size w ((w.alloc (.cells #[.int .i64 0, .int .i64 0] 34)).alloc (.cells #[.int .i64 0, .int .i64 0] 34))) := ⟨mk_alloc (heap_alloc_new w _) _, (by have h := heap_alloc_new (w.alloc (.cells #[.int .i64 0, .int .i64 0] 34)) (.cells #[.int .i64 0, .int .i64 0] 34); rw [World.size_alloc] at h; exact h), ((Below.refl _ _).alloc (Nat.le_refl _) _).alloc (by simp) _⟩
  go_enter Try.func19, Try.ntmps19
  go_wp2
  go_loopw [7, 12] (fun vf vi wr => ∃ (k : Nat) (x z : Int) (f : Bool), k ≤ n ∧ vf = .bool f ∧ vi = .int .i64 k ∧ MkAt wr w.heap.size 0 0 ∧ MkAt wr (w.heap.size + 1) x z ∧ seekR seq (L.take k) = ((x, z), f) ∧ Below w.heap.size w wr) (fun _ vi _ => n - (intOf vi).toNat)
  case atStart => exact ⟨0, 0, 0, false, Nat.zero_le _, rfl, rfl, HA.out.1, HA.out.2.1, rfl, HA.out.2.2⟩
  case round =>
    obtain ⟨k, x, z, f, hk, rfl, rfl, hr, hbx, hsk, hbe⟩ := hrel
    have HR : Hid (MkAt wr w.heap.size 0 0 ∧ MkAt wr (w.heap.size + 1) x z) := ⟨hr, hbx⟩
    have HSK : Hid (seekR seq (L.take k) = ((x, z), f)) := hsk
    obtain ⟨q0, q1, q2, q3⟩ := mk_box hbx
    obtain ⟨r0, r1, r2, r3⟩ := mk_box hr
    clear hr hbx hsk HA
    by_cases hkn : k < n
    · obtain ⟨⟨x', z'⟩, hp⟩ := get_of_lt (L := L) (k := k) (by rw [HN.out]; exact hkn)
      rcases HM.out with h0 | ⟨b, off, rfl, hlt, hc⟩
      · exfalso; have := HN.out; rw [h0] at this; simp at this; omega
      obtain ⟨c0, c1⟩ := Marks.cells hc k (x', z') hp
      rw [← hbe.cell (p := ⟨b, off + k * 2, none⟩) hlt] at c0
      rw [← hbe.cell (p := ⟨b, off + k * 2 + 1, none⟩) hlt] at c1
      simp only at c0 c1
      have HST : Hid (seekR seq (L.take (k + 1)) = if x' ≤ seq then ((x', z'), true) else ((x, z), f)) := by show _ = _; rw [seekR_take seq L k _ hp, HSK.out]
      clear hp hc
      by_cases hle : x' ≤ seq
      · go_wp2
        go_roundw
        case rel => exact ⟨k + 1, x', z', true, by omega, rfl, by go_num, mk_other (mk_other HR.out.1 (by omega) 0 _) (by omega) 1 _, mk_set HR.out.2 x' z', by rw [HST.out, if_pos hle], (hbe.setCell (p := ⟨w.heap.size + 1, 0, none⟩) (by show w.heap.size ≤ w.heap.size + 1; omega) _).setCell (p := ⟨w.heap.size + 1, 1, none⟩) (by show w.heap.size ≤ w.heap.size + 1; omega) _⟩
        case measure => simp [intOf]; omega
      · go_wp2
        go_roundw
        case rel => exact ⟨k + 1, x, z, f, by omega, rfl, by go_num, HR.out.1, HR.out.2, by rw [HST.out, if_neg hle], hbe⟩
        case measure => simp [intOf]; omega
    · have HF : Hid (seekR seq L = ((x, z), f)) := by
        have h := HSK.out
        rw [List.take_of_length_le (by rw [HN.out]; omega)] at h
        exact h
      go_wp2
      refine bodyPost_ret (results_mk rfl _ _ _ rfl rfl (mk_set HR.out.1 x z)) rfl ?_
      rw [HF.out]
      exact ⟨rfl, (hbe.setCell (p := ⟨w.heap.size, 0, none⟩) (Nat.le_refl _) _).setCell (p := ⟨w.heap.size, 1, none⟩) (Nat.le_refl _) _⟩
end Go.Proofs.Ytifackbilmkjlaa
