/- Own texts, joined: Ru0, Ru1, Ru2. -/
import Derived.Test.YtbpjlphjhjfdoaaGreatK25
import Derived.Test.YtbpjlphjhjfdoaaGreatK26
import Derived.Deep.QuietTactic
import Derived.Test.YtbpjlphjhjfdoaaGreatK48
namespace Go.Proofs.YtbpjlphjhjfdoaaGreat
open Go.ChangeShapes Go.WideShapes Go.ChangeAt Go.RowKit
set_option linter.unusedVariables false
set_option linter.unusedSimpArgs false
def atV (L : List Ln) (i : Int) : Int := match lnAt L i with
  | some _ => (lbI L i : Int)
  | none => -1
theorem at_here : ∀ (L : List Ln) (last i : Int) (k : Nat) (p : Ln), linesFrom last L = true → L[k]? = some p → p.item = i → lnAt L i = some p ∧ lbI L i = k
  | [], last, i, k, p, h, hp, hi => by simp at hp
  | q :: r, last, i, 0, p, h, hp, hi => by
    simp at hp; subst hp
    have h0 : lbI (q :: r) i = 0 := by unfold lbI; rw [if_neg (by omega)]
    refine ⟨?_, h0⟩
    unfold lnAt
    rw [h0]
    simp [hi]
  | q :: r, last, i, k + 1, p, h, hp, hi => by
    have h' := h
    simp only [linesFrom, Bool.and_eq_true] at h
    have hp' : r[k]? = some p := by simpa using hp
    have hlt := linesFrom_lt r q.item k p h.2 hp'
    obtain ⟨g1, g2⟩ := at_here r q.item i k p h.2 hp' hi
    have h0 : lbI (q :: r) i = k + 1 := by
      show (if q.item < i then lbI r i + 1 else 0) = k + 1
      rw [if_pos (by omega), g2]
    refine ⟨?_, h0⟩
    unfold lnAt at g1 ⊢
    rw [g2] at g1
    rw [h0]
    simpa using g1
theorem at_some {L : List Ln} {i : Int} {k : Nat} {p : Ln} (h : linesFrom (-1) L = true) (hp : L[k]? = some p) (hi : p.item = i) : atV L i = k := by
  obtain ⟨g1, g2⟩ := at_here L (-1) i k p h hp hi
  unfold atV
  rw [g1]
  simp only [g2]
theorem at_none {L : List Ln} {i : Int} (h : ∀ (k : Nat) (p : Ln), L[k]? = some p → p.item ≠ i) : atV L i = -1 := by
  unfold atV
  cases hl : lnAt L i with
  | none => rfl
  | some p => exact absurd (lnAt_some hl).2 (h _ p (lnAt_some hl).1)
set_option maxRecDepth 20000 in
set_option maxHeartbeats 2000000 in
theorem rat_any (s : St) (i : Int) (a : Option Addr) (n cap : Nat) (w : World) (hn : s.lines.length = n) (hl : Lns w a s.lines) (hm : n ≤ maxLen) (hb : linesFrom (-1) s.lines = true) :
    Calls Tryz.prog 18 #[.agg (stA s (.slice a n cap)), .int .i64 i] w fun e w' => e = .returned (.int .i64 (atV s.lines i)) ∧ Below w.heap.size w w' := by
  have HN : Hid (s.lines.length = n) := hn
  have HB : Hid (linesFrom (-1) s.lines = true) := hb
  unfold maxLen at hm
  obtain ⟨W, hW⟩ : ∃ W, w.alloc (.cells (stA s (.slice a n cap)) 25) = W := ⟨_, rfl⟩
  have HS := StC.new w s a n cap hl
  rw [hW] at HS
  have HSH : Hid (StC w w.heap.size s a n cap W) := HS
  have c5 : W.cell? ⟨w.heap.size, 5, none⟩ = some (.slice a n cap) := HS.1.cell 5 _ rfl
  clear hn hl HS hb
  go_enter Tryz.func18, Tryz.ntmps18
  go_wp2
  go_loopw [9] (fun vi wr => ∃ (k : Nat), k ≤ n ∧ vi = .int .i64 k ∧ wr = W ∧ Hid (∀ j p, j < k → s.lines[j]? = some p → p.item ≠ i)) (fun vi _ => n - (intOf vi).toNat)
  case atStart => exact ⟨0, Nat.zero_le _, rfl, rfl, fun j p hj => absurd hj (Nat.not_lt_zero _)⟩
  case round =>
    obtain ⟨k, hk, rfl, rfl, HI⟩ := hrel
    by_cases hkn : k < n
    · obtain ⟨p, hp⟩ := ln_get (L := s.lines) (k := k) (by rw [HN.out]; exact hkn)
      obtain ⟨b, off, rfl, hlt, q0, q1, q2, q3⟩ := HSH.out.2.1.cells k p hp
      by_cases ht : p.item = i
      · have HR : Hid (atV s.lines i = k) := at_some HB.out hp ht
        have htb : (p.item == i) = true := by simpa using ht
        clear hp
        go_wp2
        go_ret
        exact ⟨by rw [HR.out]; rfl, HSH.out.2.2⟩
      · have HE : Hid (∀ j q, j < k + 1 → s.lines[j]? = some q → q.item ≠ i) := fun j q hj hq => by
          by_cases hjk : j < k
          · exact HI.out j q hjk hq
          · obtain rfl : j = k := by omega
            rw [hp] at hq
            cases hq
            exact ht
        have htb : (p.item == i) = false := by simpa using ht
        clear hp
        go_wp2
        go_roundw
        case rel => exact ⟨k + 1, by omega, by go_num, by first | rfl | trivial, HE.out⟩
        case measure => simp [intOf]; omega
    · obtain rfl : k = n := by omega
      have HR : Hid (atV s.lines i = -1) := at_none (fun j p hj => HI.out j p (by have := ln_lt hj; rw [HN.out] at this; exact this) hj)
      go_wp2
      go_ret
      exact ⟨by rw [HR.out]; rfl, HSH.out.2.2⟩
end Go.Proofs.YtbpjlphjhjfdoaaGreat
namespace Go.Proofs.YtbpjlphjhjfdoaaGreat
open Go.ChangeShapes Go.WideShapes Go.ChangeAt Go.RowKit
set_option linter.unusedVariables false
set_option linter.unusedSimpArgs false
set_option maxRecDepth 20000 in
set_option maxHeartbeats 4000000 in
theorem ruse1 (s : St) (a : Option Addr) (n cap : Nat) (w : World) (hn : s.lines.length = n) (hl : Lns w a s.lines) (hm : n ≤ maxLen) (hv : vldB s = true) :
    Calls Tryz.prog 31 #[.agg (stA s (.slice a n cap)), .int .i64 1] w fun e w' => e = .returned (.bool (useB s 1)) ∧ Below w.heap.size w w' := by
  have HN : Hid (s.lines.length = n) := hn
  have hs : s.status = 0 ∨ s.status = 1 ∨ s.status = 2 ∨ s.status = 3 ∨ s.status = 4 ∨ s.status = 5 := by have := (vl_of hv).s1; have := (vl_of hv).s2; omega
  have HF : Hid (s.status = 1 → unshB s.lines = true) := fun h => (fits1 (vl_of hv).fits ((stand_st (by omega)).trans h)).1
  obtain ⟨W, hW⟩ : ∃ W, w.alloc (.cells (stA s (.slice a n cap)) 25) = W := ⟨_, rfl⟩
  have HS := StC.new w s a n cap hl
  rw [hW] at HS
  have HSH : Hid (StC w w.heap.size s a n cap W) := HS
  have c1 : W.cell? ⟨w.heap.size, 1, none⟩ = some (.int .i64 s.status) := HS.1.cell 1 _ rfl
  have c6 : W.cell? ⟨w.heap.size, 6, none⟩ = some (.int .i64 s.paid) := HS.1.cell 6 _ rfl
  clear hn hl HS hv
  rcases hs with hs | hs | hs | hs | hs | hs
  · have HU : Hid (useB s 1 = true) := by show _ = _; simp [useB, hs]
    rw [hs] at c1
    clear hs HF
    go_enter Tryz.func31, Tryz.ntmps31
    go_wp2
    go_ret
    exact ⟨ret_bool HU.out.symm, HSH.out.2.2⟩
  · have HU : Hid (useB s 1 = false) := by show _ = _; simp [useB, hs]
    rw [hs] at c1
    clear hs HF
    go_enter Tryz.func31, Tryz.ntmps31
    go_wp2
    go_ret
    exact ⟨ret_bool HU.out.symm, HSH.out.2.2⟩
  · have HU : Hid (useB s 1 = false) := by show _ = _; simp [useB, hs]
    rw [hs] at c1
    clear hs HF
    go_enter Tryz.func31, Tryz.ntmps31
    go_wp2
    go_ret
    exact ⟨ret_bool HU.out.symm, HSH.out.2.2⟩
  · have HU : Hid (useB s 1 = false) := by show _ = _; simp [useB, hs]
    rw [hs] at c1
    clear hs HF
    go_enter Tryz.func31, Tryz.ntmps31
    go_wp2
    go_ret
    exact ⟨ret_bool HU.out.symm, HSH.out.2.2⟩
  · have HU : Hid (useB s 1 = false) := by show _ = _; simp [useB, hs]
    rw [hs] at c1
    clear hs HF
    go_enter Tryz.func31, Tryz.ntmps31
    go_wp2
    go_ret
    exact ⟨ret_bool HU.out.symm, HSH.out.2.2⟩
  · have HU : Hid (useB s 1 = false) := by show _ = _; simp [useB, hs]
    rw [hs] at c1
    clear hs HF
    go_enter Tryz.func31, Tryz.ntmps31
    go_wp2
    go_ret
    exact ⟨ret_bool HU.out.symm, HSH.out.2.2⟩
set_option maxRecDepth 20000 in
set_option maxHeartbeats 4000000 in
theorem ruse2 (s : St) (a : Option Addr) (n cap : Nat) (w : World) (hn : s.lines.length = n) (hl : Lns w a s.lines) (hm : n ≤ maxLen) (hv : vldB s = true) :
    Calls Tryz.prog 31 #[.agg (stA s (.slice a n cap)), .int .i64 2] w fun e w' => e = .returned (.bool (useB s 2)) ∧ Below w.heap.size w w' := by
  have HN : Hid (s.lines.length = n) := hn
  have hs : s.status = 0 ∨ s.status = 1 ∨ s.status = 2 ∨ s.status = 3 ∨ s.status = 4 ∨ s.status = 5 := by have := (vl_of hv).s1; have := (vl_of hv).s2; omega
  have HF : Hid (s.status = 1 → unshB s.lines = true) := fun h => (fits1 (vl_of hv).fits ((stand_st (by omega)).trans h)).1
  obtain ⟨W, hW⟩ : ∃ W, w.alloc (.cells (stA s (.slice a n cap)) 25) = W := ⟨_, rfl⟩
  have HS := StC.new w s a n cap hl
  rw [hW] at HS
  have HSH : Hid (StC w w.heap.size s a n cap W) := HS
  have c1 : W.cell? ⟨w.heap.size, 1, none⟩ = some (.int .i64 s.status) := HS.1.cell 1 _ rfl
  have c6 : W.cell? ⟨w.heap.size, 6, none⟩ = some (.int .i64 s.paid) := HS.1.cell 6 _ rfl
  clear hn hl HS hv
  rcases hs with hs | hs | hs | hs | hs | hs
  · have HU : Hid (useB s 2 = false) := by show _ = _; simp [useB, hs]
    rw [hs] at c1
    clear hs HF
    go_enter Tryz.func31, Tryz.ntmps31
    go_wp2
    go_ret
    exact ⟨ret_bool HU.out.symm, HSH.out.2.2⟩
  · have HU : Hid (useB s 2 = (s.paid == 0)) := by show _ = _; simp [useB, hs]
    rw [hs] at c1
    clear hs HF
    go_enter Tryz.func31, Tryz.ntmps31
    go_wp2
    go_ret
    exact ⟨ret_bool HU.out.symm, HSH.out.2.2⟩
  · have HU : Hid (useB s 2 = false) := by show _ = _; simp [useB, hs]
    rw [hs] at c1
    clear hs HF
    go_enter Tryz.func31, Tryz.ntmps31
    go_wp2
    go_ret
    exact ⟨ret_bool HU.out.symm, HSH.out.2.2⟩
  · have HU : Hid (useB s 2 = false) := by show _ = _; simp [useB, hs]
    rw [hs] at c1
    clear hs HF
    go_enter Tryz.func31, Tryz.ntmps31
    go_wp2
    go_ret
    exact ⟨ret_bool HU.out.symm, HSH.out.2.2⟩
  · have HU : Hid (useB s 2 = false) := by show _ = _; simp [useB, hs]
    rw [hs] at c1
    clear hs HF
    go_enter Tryz.func31, Tryz.ntmps31
    go_wp2
    go_ret
    exact ⟨ret_bool HU.out.symm, HSH.out.2.2⟩
  · have HU : Hid (useB s 2 = false) := by show _ = _; simp [useB, hs]
    rw [hs] at c1
    clear hs HF
    go_enter Tryz.func31, Tryz.ntmps31
    go_wp2
    go_ret
    exact ⟨ret_bool HU.out.symm, HSH.out.2.2⟩
set_option maxRecDepth 20000 in
set_option maxHeartbeats 4000000 in
theorem ruse3 (s : St) (a : Option Addr) (n cap : Nat) (w : World) (hn : s.lines.length = n) (hl : Lns w a s.lines) (hm : n ≤ maxLen) (hv : vldB s = true) :
    Calls Tryz.prog 31 #[.agg (stA s (.slice a n cap)), .int .i64 3] w fun e w' => e = .returned (.bool (useB s 3)) ∧ Below w.heap.size w w' := by
  have HN : Hid (s.lines.length = n) := hn
  have hs : s.status = 0 ∨ s.status = 1 ∨ s.status = 2 ∨ s.status = 3 ∨ s.status = 4 ∨ s.status = 5 := by have := (vl_of hv).s1; have := (vl_of hv).s2; omega
  have HF : Hid (s.status = 1 → unshB s.lines = true) := fun h => (fits1 (vl_of hv).fits ((stand_st (by omega)).trans h)).1
  obtain ⟨W, hW⟩ : ∃ W, w.alloc (.cells (stA s (.slice a n cap)) 25) = W := ⟨_, rfl⟩
  have HS := StC.new w s a n cap hl
  rw [hW] at HS
  have HSH : Hid (StC w w.heap.size s a n cap W) := HS
  have c1 : W.cell? ⟨w.heap.size, 1, none⟩ = some (.int .i64 s.status) := HS.1.cell 1 _ rfl
  have c6 : W.cell? ⟨w.heap.size, 6, none⟩ = some (.int .i64 s.paid) := HS.1.cell 6 _ rfl
  clear hn hl HS hv
  rcases hs with hs | hs | hs | hs | hs | hs
  · have HU : Hid (useB s 3 = false) := by show _ = _; simp [useB, hs]
    rw [hs] at c1
    clear hs HF
    go_enter Tryz.func31, Tryz.ntmps31
    go_wp2
    go_ret
    exact ⟨ret_bool HU.out.symm, HSH.out.2.2⟩
  · have HU : Hid (useB s 3 = true) := by show _ = _; simp [useB, hs]
    rw [hs] at c1
    clear hs HF
    go_enter Tryz.func31, Tryz.ntmps31
    go_wp2
    go_ret
    exact ⟨ret_bool HU.out.symm, HSH.out.2.2⟩
  · have HU : Hid (useB s 3 = false) := by show _ = _; simp [useB, hs]
    rw [hs] at c1
    clear hs HF
    go_enter Tryz.func31, Tryz.ntmps31
    go_wp2
    go_ret
    exact ⟨ret_bool HU.out.symm, HSH.out.2.2⟩
  · have HU : Hid (useB s 3 = false) := by show _ = _; simp [useB, hs]
    rw [hs] at c1
    clear hs HF
    go_enter Tryz.func31, Tryz.ntmps31
    go_wp2
    go_ret
    exact ⟨ret_bool HU.out.symm, HSH.out.2.2⟩
  · have HU : Hid (useB s 3 = false) := by show _ = _; simp [useB, hs]
    rw [hs] at c1
    clear hs HF
    go_enter Tryz.func31, Tryz.ntmps31
    go_wp2
    go_ret
    exact ⟨ret_bool HU.out.symm, HSH.out.2.2⟩
  · have HU : Hid (useB s 3 = false) := by show _ = _; simp [useB, hs]
    rw [hs] at c1
    clear hs HF
    go_enter Tryz.func31, Tryz.ntmps31
    go_wp2
    go_ret
    exact ⟨ret_bool HU.out.symm, HSH.out.2.2⟩
set_option maxRecDepth 20000 in
set_option maxHeartbeats 4000000 in
theorem ruse4 (s : St) (a : Option Addr) (n cap : Nat) (w : World) (hn : s.lines.length = n) (hl : Lns w a s.lines) (hm : n ≤ maxLen) (hv : vldB s = true) :
    Calls Tryz.prog 31 #[.agg (stA s (.slice a n cap)), .int .i64 4] w fun e w' => e = .returned (.bool (useB s 4)) ∧ Below w.heap.size w w' := by
  have HN : Hid (s.lines.length = n) := hn
  have hs : s.status = 0 ∨ s.status = 1 ∨ s.status = 2 ∨ s.status = 3 ∨ s.status = 4 ∨ s.status = 5 := by have := (vl_of hv).s1; have := (vl_of hv).s2; omega
  have HF : Hid (s.status = 1 → unshB s.lines = true) := fun h => (fits1 (vl_of hv).fits ((stand_st (by omega)).trans h)).1
  obtain ⟨W, hW⟩ : ∃ W, w.alloc (.cells (stA s (.slice a n cap)) 25) = W := ⟨_, rfl⟩
  have HS := StC.new w s a n cap hl
  rw [hW] at HS
  have HSH : Hid (StC w w.heap.size s a n cap W) := HS
  have c1 : W.cell? ⟨w.heap.size, 1, none⟩ = some (.int .i64 s.status) := HS.1.cell 1 _ rfl
  have c6 : W.cell? ⟨w.heap.size, 6, none⟩ = some (.int .i64 s.paid) := HS.1.cell 6 _ rfl
  clear hn hl HS hv
  rcases hs with hs | hs | hs | hs | hs | hs
  · have HU : Hid (useB s 4 = false) := by show _ = _; simp [useB, hs]
    rw [hs] at c1
    clear hs HF
    go_enter Tryz.func31, Tryz.ntmps31
    go_wp2
    go_ret
    exact ⟨ret_bool HU.out.symm, HSH.out.2.2⟩
  · have HU : Hid (useB s 4 = false) := by show _ = _; simp [useB, hs]
    rw [hs] at c1
    clear hs HF
    go_enter Tryz.func31, Tryz.ntmps31
    go_wp2
    go_ret
    exact ⟨ret_bool HU.out.symm, HSH.out.2.2⟩
  · have HU : Hid (useB s 4 = false) := by show _ = _; simp [useB, hs]
    rw [hs] at c1
    clear hs HF
    go_enter Tryz.func31, Tryz.ntmps31
    go_wp2
    go_ret
    exact ⟨ret_bool HU.out.symm, HSH.out.2.2⟩
  · have HU : Hid (useB s 4 = true) := by show _ = _; simp [useB, hs]
    rw [hs] at c1
    clear hs HF
    go_enter Tryz.func31, Tryz.ntmps31
    go_wp2
    go_ret
    exact ⟨ret_bool HU.out.symm, HSH.out.2.2⟩
  · have HU : Hid (useB s 4 = false) := by show _ = _; simp [useB, hs]
    rw [hs] at c1
    clear hs HF
    go_enter Tryz.func31, Tryz.ntmps31
    go_wp2
    go_ret
    exact ⟨ret_bool HU.out.symm, HSH.out.2.2⟩
  · have HU : Hid (useB s 4 = false) := by show _ = _; simp [useB, hs]
    rw [hs] at c1
    clear hs HF
    go_enter Tryz.func31, Tryz.ntmps31
    go_wp2
    go_ret
    exact ⟨ret_bool HU.out.symm, HSH.out.2.2⟩
set_option maxRecDepth 20000 in
set_option maxHeartbeats 4000000 in
theorem ruse5 (s : St) (a : Option Addr) (n cap : Nat) (w : World) (hn : s.lines.length = n) (hl : Lns w a s.lines) (hm : n ≤ maxLen) (hv : vldB s = true) :
    Calls Tryz.prog 31 #[.agg (stA s (.slice a n cap)), .int .i64 5] w fun e w' => e = .returned (.bool (useB s 5)) ∧ Below w.heap.size w w' := by
  have HN : Hid (s.lines.length = n) := hn
  have hs : s.status = 0 ∨ s.status = 1 ∨ s.status = 2 ∨ s.status = 3 ∨ s.status = 4 ∨ s.status = 5 := by have := (vl_of hv).s1; have := (vl_of hv).s2; omega
  have HF : Hid (s.status = 1 → unshB s.lines = true) := fun h => (fits1 (vl_of hv).fits ((stand_st (by omega)).trans h)).1
  obtain ⟨W, hW⟩ : ∃ W, w.alloc (.cells (stA s (.slice a n cap)) 25) = W := ⟨_, rfl⟩
  have HS := StC.new w s a n cap hl
  rw [hW] at HS
  have HSH : Hid (StC w w.heap.size s a n cap W) := HS
  have c1 : W.cell? ⟨w.heap.size, 1, none⟩ = some (.int .i64 s.status) := HS.1.cell 1 _ rfl
  have c6 : W.cell? ⟨w.heap.size, 6, none⟩ = some (.int .i64 s.paid) := HS.1.cell 6 _ rfl
  clear hn hl HS hv
  rcases hs with hs | hs | hs | hs | hs | hs
  · have HU : Hid (useB s 5 = false) := by show _ = _; simp [useB, hs]
    rw [hs] at c1
    clear hs HF
    go_enter Tryz.func31, Tryz.ntmps31
    go_wp2
    go_ret
    exact ⟨ret_bool HU.out.symm, HSH.out.2.2⟩
  · have HU : Hid (useB s 5 = true) := by show _ = _; simp [useB, hs, HF.out hs]
    rw [hs] at c1
    clear hs HF
    go_enter Tryz.func31, Tryz.ntmps31
    go_wp2
    go_ret
    exact ⟨ret_bool HU.out.symm, HSH.out.2.2⟩
  · have HU : Hid (useB s 5 = unshB s.lines) := by show _ = _; simp [useB, hs]
    rw [hs] at c1
    clear hs HF
    go_enter Tryz.func31, Tryz.ntmps31
    go_wp2_with (first
      | ((with_reducible refine guard_loadg 25 ?_); refine wpList_load_stg rfl _ rfl HSH.out.1 rfl ?_)
      | (go_at_call 66; refine (runt_any s a n cap _ HN.out HSH.out.2.1 hm).mono ?_; rintro _ x1 ⟨rfl, hb1⟩; have HX : Hid (StC w w.heap.size s a n cap x1) := StC.keep HSH.out hb1; clear hb1))
    go_ret
    exact ⟨ret_bool HU.out.symm, HX.out.2.2⟩
  · have HU : Hid (useB s 5 = unshB s.lines) := by show _ = _; simp [useB, hs]
    rw [hs] at c1
    clear hs HF
    go_enter Tryz.func31, Tryz.ntmps31
    go_wp2_with (first
      | ((with_reducible refine guard_loadg 25 ?_); refine wpList_load_stg rfl _ rfl HSH.out.1 rfl ?_)
      | (go_at_call 66; refine (runt_any s a n cap _ HN.out HSH.out.2.1 hm).mono ?_; rintro _ x1 ⟨rfl, hb1⟩; have HX : Hid (StC w w.heap.size s a n cap x1) := StC.keep HSH.out hb1; clear hb1))
    go_ret
    exact ⟨ret_bool HU.out.symm, HX.out.2.2⟩
  · have HU : Hid (useB s 5 = false) := by show _ = _; simp [useB, hs]
    rw [hs] at c1
    clear hs HF
    go_enter Tryz.func31, Tryz.ntmps31
    go_wp2
    go_ret
    exact ⟨ret_bool HU.out.symm, HSH.out.2.2⟩
  · have HU : Hid (useB s 5 = false) := by show _ = _; simp [useB, hs]
    rw [hs] at c1
    clear hs HF
    go_enter Tryz.func31, Tryz.ntmps31
    go_wp2
    go_ret
    exact ⟨ret_bool HU.out.symm, HSH.out.2.2⟩
end Go.Proofs.YtbpjlphjhjfdoaaGreat
namespace Go.Proofs.YtbpjlphjhjfdoaaGreat
open Go.ChangeShapes Go.WideShapes Go.ChangeAt Go.RowKit
set_option linter.unusedVariables false
set_option linter.unusedSimpArgs false
set_option maxRecDepth 20000 in
set_option maxHeartbeats 4000000 in
theorem ruse6 (s : St) (a : Option Addr) (n cap : Nat) (w : World) (hn : s.lines.length = n) (hl : Lns w a s.lines) (hm : n ≤ maxLen) (hv : vldB s = true) :
    Calls Tryz.prog 31 #[.agg (stA s (.slice a n cap)), .int .i64 6] w fun e w' => e = .returned (.bool (useB s 6)) ∧ Below w.heap.size w w' := by
  have HN : Hid (s.lines.length = n) := hn
  have hs : s.status = 0 ∨ s.status = 1 ∨ s.status = 2 ∨ s.status = 3 ∨ s.status = 4 ∨ s.status = 5 := by have := (vl_of hv).s1; have := (vl_of hv).s2; omega
  have HF : Hid (s.status = 1 → unshB s.lines = true) := fun h => (fits1 (vl_of hv).fits ((stand_st (by omega)).trans h)).1
  obtain ⟨W, hW⟩ : ∃ W, w.alloc (.cells (stA s (.slice a n cap)) 25) = W := ⟨_, rfl⟩
  have HS := StC.new w s a n cap hl
  rw [hW] at HS
  have HSH : Hid (StC w w.heap.size s a n cap W) := HS
  have c1 : W.cell? ⟨w.heap.size, 1, none⟩ = some (.int .i64 s.status) := HS.1.cell 1 _ rfl
  have c6 : W.cell? ⟨w.heap.size, 6, none⟩ = some (.int .i64 s.paid) := HS.1.cell 6 _ rfl
  clear hn hl HS hv
  rcases hs with hs | hs | hs | hs | hs | hs
  · have HU : Hid (useB s 6 = false) := by show _ = _; simp [useB, hs]
    rw [hs] at c1
    clear hs HF
    go_enter Tryz.func31, Tryz.ntmps31
    go_wp2
    go_ret
    exact ⟨ret_bool HU.out.symm, HSH.out.2.2⟩
  · have HU : Hid (useB s 6 = (s.paid == 0)) := by show _ = _; simp [useB, hs]
    rw [hs] at c1
    clear hs HF
    go_enter Tryz.func31, Tryz.ntmps31
    go_wp2
    go_ret
    exact ⟨ret_bool HU.out.symm, HSH.out.2.2⟩
  · have HU : Hid (useB s 6 = false) := by show _ = _; simp [useB, hs]
    rw [hs] at c1
    clear hs HF
    go_enter Tryz.func31, Tryz.ntmps31
    go_wp2
    go_ret
    exact ⟨ret_bool HU.out.symm, HSH.out.2.2⟩
  · have HU : Hid (useB s 6 = false) := by show _ = _; simp [useB, hs]
    rw [hs] at c1
    clear hs HF
    go_enter Tryz.func31, Tryz.ntmps31
    go_wp2
    go_ret
    exact ⟨ret_bool HU.out.symm, HSH.out.2.2⟩
  · have HU : Hid (useB s 6 = false) := by show _ = _; simp [useB, hs]
    rw [hs] at c1
    clear hs HF
    go_enter Tryz.func31, Tryz.ntmps31
    go_wp2
    go_ret
    exact ⟨ret_bool HU.out.symm, HSH.out.2.2⟩
  · have HU : Hid (useB s 6 = false) := by show _ = _; simp [useB, hs]
    rw [hs] at c1
    clear hs HF
    go_enter Tryz.func31, Tryz.ntmps31
    go_wp2
    go_ret
    exact ⟨ret_bool HU.out.symm, HSH.out.2.2⟩
set_option maxRecDepth 20000 in
set_option maxHeartbeats 4000000 in
theorem ruse7 (s : St) (a : Option Addr) (n cap : Nat) (w : World) (hn : s.lines.length = n) (hl : Lns w a s.lines) (hm : n ≤ maxLen) (hv : vldB s = true) :
    Calls Tryz.prog 31 #[.agg (stA s (.slice a n cap)), .int .i64 7] w fun e w' => e = .returned (.bool (useB s 7)) ∧ Below w.heap.size w w' := by
  have HN : Hid (s.lines.length = n) := hn
  have hs : s.status = 0 ∨ s.status = 1 ∨ s.status = 2 ∨ s.status = 3 ∨ s.status = 4 ∨ s.status = 5 := by have := (vl_of hv).s1; have := (vl_of hv).s2; omega
  have HF : Hid (s.status = 1 → unshB s.lines = true) := fun h => (fits1 (vl_of hv).fits ((stand_st (by omega)).trans h)).1
  obtain ⟨W, hW⟩ : ∃ W, w.alloc (.cells (stA s (.slice a n cap)) 25) = W := ⟨_, rfl⟩
  have HS := StC.new w s a n cap hl
  rw [hW] at HS
  have HSH : Hid (StC w w.heap.size s a n cap W) := HS
  have c1 : W.cell? ⟨w.heap.size, 1, none⟩ = some (.int .i64 s.status) := HS.1.cell 1 _ rfl
  have c6 : W.cell? ⟨w.heap.size, 6, none⟩ = some (.int .i64 s.paid) := HS.1.cell 6 _ rfl
  clear hn hl HS hv
  rcases hs with hs | hs | hs | hs | hs | hs
  · have HU : Hid (useB s 7 = false) := by show _ = _; simp [useB, hs]
    rw [hs] at c1
    clear hs HF
    go_enter Tryz.func31, Tryz.ntmps31
    go_wp2
    go_ret
    exact ⟨ret_bool HU.out.symm, HSH.out.2.2⟩
  · have HU : Hid (useB s 7 = false) := by show _ = _; simp [useB, hs]
    rw [hs] at c1
    clear hs HF
    go_enter Tryz.func31, Tryz.ntmps31
    go_wp2
    go_ret
    exact ⟨ret_bool HU.out.symm, HSH.out.2.2⟩
  · have HU : Hid (useB s 7 = false) := by show _ = _; simp [useB, hs]
    rw [hs] at c1
    clear hs HF
    go_enter Tryz.func31, Tryz.ntmps31
    go_wp2
    go_ret
    exact ⟨ret_bool HU.out.symm, HSH.out.2.2⟩
  · have HU : Hid (useB s 7 = true) := by show _ = _; simp [useB, hs]
    rw [hs] at c1
    clear hs HF
    go_enter Tryz.func31, Tryz.ntmps31
    go_wp2
    go_ret
    exact ⟨ret_bool HU.out.symm, HSH.out.2.2⟩
  · have HU : Hid (useB s 7 = true) := by show _ = _; simp [useB, hs]
    rw [hs] at c1
    clear hs HF
    go_enter Tryz.func31, Tryz.ntmps31
    go_wp2
    go_ret
    exact ⟨ret_bool HU.out.symm, HSH.out.2.2⟩
  · have HU : Hid (useB s 7 = true) := by show _ = _; simp [useB, hs]
    rw [hs] at c1
    clear hs HF
    go_enter Tryz.func31, Tryz.ntmps31
    go_wp2
    go_ret
    exact ⟨ret_bool HU.out.symm, HSH.out.2.2⟩
set_option maxRecDepth 20000 in
set_option maxHeartbeats 4000000 in
theorem ruse8 (s : St) (a : Option Addr) (n cap : Nat) (w : World) (hn : s.lines.length = n) (hl : Lns w a s.lines) (hm : n ≤ maxLen) (hv : vldB s = true) :
    Calls Tryz.prog 31 #[.agg (stA s (.slice a n cap)), .int .i64 8] w fun e w' => e = .returned (.bool (useB s 8)) ∧ Below w.heap.size w w' := by
  have HN : Hid (s.lines.length = n) := hn
  have hs : s.status = 0 ∨ s.status = 1 ∨ s.status = 2 ∨ s.status = 3 ∨ s.status = 4 ∨ s.status = 5 := by have := (vl_of hv).s1; have := (vl_of hv).s2; omega
  have HF : Hid (s.status = 1 → unshB s.lines = true) := fun h => (fits1 (vl_of hv).fits ((stand_st (by omega)).trans h)).1
  obtain ⟨W, hW⟩ : ∃ W, w.alloc (.cells (stA s (.slice a n cap)) 25) = W := ⟨_, rfl⟩
  have HS := StC.new w s a n cap hl
  rw [hW] at HS
  have HSH : Hid (StC w w.heap.size s a n cap W) := HS
  have c1 : W.cell? ⟨w.heap.size, 1, none⟩ = some (.int .i64 s.status) := HS.1.cell 1 _ rfl
  have c6 : W.cell? ⟨w.heap.size, 6, none⟩ = some (.int .i64 s.paid) := HS.1.cell 6 _ rfl
  clear hn hl HS hv
  rcases hs with hs | hs | hs | hs | hs | hs
  · have HU : Hid (useB s 8 = false) := by show _ = _; simp [useB, hs]
    rw [hs] at c1
    clear hs HF
    go_enter Tryz.func31, Tryz.ntmps31
    go_wp2
    go_ret
    exact ⟨ret_bool HU.out.symm, HSH.out.2.2⟩
  · have HU : Hid (useB s 8 = true) := by show _ = _; simp [useB, hs]
    rw [hs] at c1
    clear hs HF
    go_enter Tryz.func31, Tryz.ntmps31
    go_wp2
    go_ret
    exact ⟨ret_bool HU.out.symm, HSH.out.2.2⟩
  · have HU : Hid (useB s 8 = false) := by show _ = _; simp [useB, hs]
    rw [hs] at c1
    clear hs HF
    go_enter Tryz.func31, Tryz.ntmps31
    go_wp2
    go_ret
    exact ⟨ret_bool HU.out.symm, HSH.out.2.2⟩
  · have HU : Hid (useB s 8 = true) := by show _ = _; simp [useB, hs]
    rw [hs] at c1
    clear hs HF
    go_enter Tryz.func31, Tryz.ntmps31
    go_wp2
    go_ret
    exact ⟨ret_bool HU.out.symm, HSH.out.2.2⟩
  · have HU : Hid (useB s 8 = false) := by show _ = _; simp [useB, hs]
    rw [hs] at c1
    clear hs HF
    go_enter Tryz.func31, Tryz.ntmps31
    go_wp2
    go_ret
    exact ⟨ret_bool HU.out.symm, HSH.out.2.2⟩
  · have HU : Hid (useB s 8 = false) := by show _ = _; simp [useB, hs]
    rw [hs] at c1
    clear hs HF
    go_enter Tryz.func31, Tryz.ntmps31
    go_wp2
    go_ret
    exact ⟨ret_bool HU.out.symm, HSH.out.2.2⟩
set_option maxRecDepth 20000 in
set_option maxHeartbeats 4000000 in
theorem ruse9 (s : St) (a : Option Addr) (n cap : Nat) (w : World) (hn : s.lines.length = n) (hl : Lns w a s.lines) (hm : n ≤ maxLen) (hv : vldB s = true) :
    Calls Tryz.prog 31 #[.agg (stA s (.slice a n cap)), .int .i64 9] w fun e w' => e = .returned (.bool (useB s 9)) ∧ Below w.heap.size w w' := by
  have HN : Hid (s.lines.length = n) := hn
  have hs : s.status = 0 ∨ s.status = 1 ∨ s.status = 2 ∨ s.status = 3 ∨ s.status = 4 ∨ s.status = 5 := by have := (vl_of hv).s1; have := (vl_of hv).s2; omega
  have HF : Hid (s.status = 1 → unshB s.lines = true) := fun h => (fits1 (vl_of hv).fits ((stand_st (by omega)).trans h)).1
  obtain ⟨W, hW⟩ : ∃ W, w.alloc (.cells (stA s (.slice a n cap)) 25) = W := ⟨_, rfl⟩
  have HS := StC.new w s a n cap hl
  rw [hW] at HS
  have HSH : Hid (StC w w.heap.size s a n cap W) := HS
  have c1 : W.cell? ⟨w.heap.size, 1, none⟩ = some (.int .i64 s.status) := HS.1.cell 1 _ rfl
  have c6 : W.cell? ⟨w.heap.size, 6, none⟩ = some (.int .i64 s.paid) := HS.1.cell 6 _ rfl
  clear hn hl HS hv
  rcases hs with hs | hs | hs | hs | hs | hs
  · have HU : Hid (useB s 9 = false) := by show _ = _; simp [useB, hs]
    rw [hs] at c1
    clear hs HF
    go_enter Tryz.func31, Tryz.ntmps31
    go_wp2
    go_ret
    exact ⟨ret_bool HU.out.symm, HSH.out.2.2⟩
  · have HU : Hid (useB s 9 = false) := by show _ = _; simp [useB, hs]
    rw [hs] at c1
    clear hs HF
    go_enter Tryz.func31, Tryz.ntmps31
    go_wp2
    go_ret
    exact ⟨ret_bool HU.out.symm, HSH.out.2.2⟩
  · have HU : Hid (useB s 9 = true) := by show _ = _; simp [useB, hs]
    rw [hs] at c1
    clear hs HF
    go_enter Tryz.func31, Tryz.ntmps31
    go_wp2
    go_ret
    exact ⟨ret_bool HU.out.symm, HSH.out.2.2⟩
  · have HU : Hid (useB s 9 = false) := by show _ = _; simp [useB, hs]
    rw [hs] at c1
    clear hs HF
    go_enter Tryz.func31, Tryz.ntmps31
    go_wp2
    go_ret
    exact ⟨ret_bool HU.out.symm, HSH.out.2.2⟩
  · have HU : Hid (useB s 9 = false) := by show _ = _; simp [useB, hs]
    rw [hs] at c1
    clear hs HF
    go_enter Tryz.func31, Tryz.ntmps31
    go_wp2
    go_ret
    exact ⟨ret_bool HU.out.symm, HSH.out.2.2⟩
  · have HU : Hid (useB s 9 = false) := by show _ = _; simp [useB, hs]
    rw [hs] at c1
    clear hs HF
    go_enter Tryz.func31, Tryz.ntmps31
    go_wp2
    go_ret
    exact ⟨ret_bool HU.out.symm, HSH.out.2.2⟩
set_option maxRecDepth 20000 in
set_option maxHeartbeats 4000000 in
theorem ruse10 (s : St) (a : Option Addr) (n cap : Nat) (w : World) (hn : s.lines.length = n) (hl : Lns w a s.lines) (hm : n ≤ maxLen) (hv : vldB s = true) :
    Calls Tryz.prog 31 #[.agg (stA s (.slice a n cap)), .int .i64 10] w fun e w' => e = .returned (.bool (useB s 10)) ∧ Below w.heap.size w w' := by
  have HN : Hid (s.lines.length = n) := hn
  have hs : s.status = 0 ∨ s.status = 1 ∨ s.status = 2 ∨ s.status = 3 ∨ s.status = 4 ∨ s.status = 5 := by have := (vl_of hv).s1; have := (vl_of hv).s2; omega
  have HF : Hid (s.status = 1 → unshB s.lines = true) := fun h => (fits1 (vl_of hv).fits ((stand_st (by omega)).trans h)).1
  obtain ⟨W, hW⟩ : ∃ W, w.alloc (.cells (stA s (.slice a n cap)) 25) = W := ⟨_, rfl⟩
  have HS := StC.new w s a n cap hl
  rw [hW] at HS
  have HSH : Hid (StC w w.heap.size s a n cap W) := HS
  have c1 : W.cell? ⟨w.heap.size, 1, none⟩ = some (.int .i64 s.status) := HS.1.cell 1 _ rfl
  have c6 : W.cell? ⟨w.heap.size, 6, none⟩ = some (.int .i64 s.paid) := HS.1.cell 6 _ rfl
  clear hn hl HS hv
  rcases hs with hs | hs | hs | hs | hs | hs
  · have HU : Hid (useB s 10 = false) := by show _ = _; simp [useB, hs]
    rw [hs] at c1
    clear hs HF
    go_enter Tryz.func31, Tryz.ntmps31
    go_wp2
    go_ret
    exact ⟨ret_bool HU.out.symm, HSH.out.2.2⟩
  · have HU : Hid (useB s 10 = false) := by show _ = _; simp [useB, hs]
    rw [hs] at c1
    clear hs HF
    go_enter Tryz.func31, Tryz.ntmps31
    go_wp2
    go_ret
    exact ⟨ret_bool HU.out.symm, HSH.out.2.2⟩
  · have HU : Hid (useB s 10 = false) := by show _ = _; simp [useB, hs]
    rw [hs] at c1
    clear hs HF
    go_enter Tryz.func31, Tryz.ntmps31
    go_wp2
    go_ret
    exact ⟨ret_bool HU.out.symm, HSH.out.2.2⟩
  · have HU : Hid (useB s 10 = true) := by show _ = _; simp [useB, hs]
    rw [hs] at c1
    clear hs HF
    go_enter Tryz.func31, Tryz.ntmps31
    go_wp2
    go_ret
    exact ⟨ret_bool HU.out.symm, HSH.out.2.2⟩
  · have HU : Hid (useB s 10 = false) := by show _ = _; simp [useB, hs]
    rw [hs] at c1
    clear hs HF
    go_enter Tryz.func31, Tryz.ntmps31
    go_wp2
    go_ret
    exact ⟨ret_bool HU.out.symm, HSH.out.2.2⟩
  · have HU : Hid (useB s 10 = false) := by show _ = _; simp [useB, hs]
    rw [hs] at c1
    clear hs HF
    go_enter Tryz.func31, Tryz.ntmps31
    go_wp2
    go_ret
    exact ⟨ret_bool HU.out.symm, HSH.out.2.2⟩
theorem ruse_any (s : St) (k : Int) (a : Option Addr) (n cap : Nat) (w : World) (hn : s.lines.length = n) (hl : Lns w a s.lines) (hm : n ≤ maxLen) (hv : vldB s = true) (h1 : 1 ≤ k) (h2 : k ≤ 10) :
    Calls Tryz.prog 31 #[.agg (stA s (.slice a n cap)), .int .i64 k] w fun e w' => e = .returned (.bool (useB s k)) ∧ Below w.heap.size w w' := by
  have h : k = 1 ∨ k = 2 ∨ k = 3 ∨ k = 4 ∨ k = 5 ∨ k = 6 ∨ k = 7 ∨ k = 8 ∨ k = 9 ∨ k = 10 := by omega
  rcases h with rfl | rfl | rfl | rfl | rfl | rfl | rfl | rfl | rfl | rfl
  · exact ruse1 s a n cap w hn hl hm hv
  · exact ruse2 s a n cap w hn hl hm hv
  · exact ruse3 s a n cap w hn hl hm hv
  · exact ruse4 s a n cap w hn hl hm hv
  · exact ruse5 s a n cap w hn hl hm hv
  · exact ruse6 s a n cap w hn hl hm hv
  · exact ruse7 s a n cap w hn hl hm hv
  · exact ruse8 s a n cap w hn hl hm hv
  · exact ruse9 s a n cap w hn hl hm hv
  · exact ruse10 s a n cap w hn hl hm hv
end Go.Proofs.YtbpjlphjhjfdoaaGreat
