/- Placed frames in memory; what index.Build and the reference's Build answer. -/
import Derived.Test.YtifackbilmkjlabMkS
import Derived.Test.YtifackbilmkjlabMkm
import Derived.Deep.RegionLaw
import Derived.Deep.AppendLies
namespace Go.Proofs.Ytifackbilmkjlab
open Go.ChangeShapes Go.WideShapes Go.ChangeAt Go.RowKit
set_option linter.unusedVariables false
/-- placed frames, of which each one's number and place is told by P; V: all their cells -/
structure PlAt (w : World) (a : Option Addr) (P : List Mk) (V : List Value) : Prop where
  len : V.length = P.length * 5
  one : ∀ u ∈ V, u.oneCell' = true
  lie : P = [] ∨ ∃ b off, a = some ⟨b, off, none⟩ ∧ b < w.heap.size ∧ ∀ j, j < P.length * 5 → w.cell? ⟨b, off + j, none⟩ = V[j]?
  fld : ∀ i p, P[i]? = some p → V[i * 5]? = some (.int .i64 p.2) ∧ V[i * 5 + 3]? = some (.int .i64 p.1)
theorem PlAt.keep {w w' : World} {a : Option Addr} {P : List Mk} {V : List Value} (h : PlAt w a P V) (hb : Below w.heap.size w w') : PlAt w' a P V := by
  refine ⟨h.len, h.one, ?_, h.fld⟩
  rcases h.lie with h1 | ⟨b, off, h1, h2, h3⟩
  · exact .inl h1
  · exact .inr ⟨b, off, h1, Nat.lt_of_lt_of_le h2 hb.size, fun j hj => (hb.cell (p := ⟨b, off + j, none⟩) h2).trans (h3 j hj)⟩
theorem PlAt.at {w : World} {a : Option Addr} {P : List Mk} {V : List Value} (h : PlAt w a P V) (k : Nat) (p : Mk) (hp : P[k]? = some p) : ∃ b off, a = some ⟨b, off, none⟩ ∧ b < w.heap.size ∧ w.cell? ⟨b, off + k * 5, none⟩ = some (.int .i64 p.2) ∧ w.cell? ⟨b, off + k * 5 + 3, none⟩ = some (.int .i64 p.1) := by
  have hk := lt_of_get hp
  obtain ⟨f0, f1⟩ := h.fld k p hp
  rcases h.lie with rfl | ⟨b, off, h1, h2, h3⟩
  · simp at hk
  · exact ⟨b, off, h1, h2, (h3 (k * 5) (by omega)).trans f0, (h3 (k * 5 + 3) (by omega)).trans f1⟩
/-- every s-th, from the k-th on -/
def bw : Nat → Nat → List Mk → List Mk
  | _, _, [] => []
  | s, 0, p :: r => p :: bw s (s - 1) r
  | s, k + 1, _ :: r => bw s k r
theorem bw_drop (s : Nat) : ∀ (k : Nat) (r : List Mk), bw s k r = bw s 0 (r.drop k)
  | 0, r => rfl
  | k + 1, [] => by simp [bw]
  | k + 1, p :: r => by simp only [List.drop_succ_cons]; exact bw_drop s k r
/-- what Build answers -/
def bldL (stride : Int) (P : List Mk) : List Mk := if stride < 1 then [] else bw stride.toNat 0 P
theorem bw_len (s : Nat) : ∀ (k : Nat) (r : List Mk), (bw s k r).length ≤ r.length
  | _, [] => by simp [bw]
  | 0, p :: r => by simp only [bw, List.length_cons]; have := bw_len s (s - 1) r; omega
  | k + 1, p :: r => by simp only [bw, List.length_cons]; have := bw_len s k r; omega
theorem bldL_len (stride : Int) (P : List Mk) : (bldL stride P).length ≤ P.length := by
  unfold bldL
  split
  · simp
  · exact bw_len _ 0 P
set_option maxRecDepth 20000 in
set_option maxHeartbeats 4000000 in
theorem build_any (P : List Mk) (V : List Value) (n : Nat) (a : Option Addr) (cap : Nat) (stride : Int) (w : World) (hn : P.length = n) (hm : PlAt w a P V) (hl : n * 56 ≤ 140737488351232) (hs0 : -9223372036854775808 ≤ stride) (hs1 : stride ≤ 9223372036854775807) :
    Calls Try.prog 5 #[.slice a n cap, .int .i64 stride] w fun e w' => ∃ v, e = .returned v ∧ OwnM w' w.heap.size v (bldL stride P) ∧ Below w.heap.size w w' := by
  by_cases hst : stride < 1
  · have HR : Hid (bldL stride P = []) := by show _ = _; unfold bldL; rw [if_pos hst]
    clear hm hn
    go_enter Try.func5, Try.ntmps5
    go_wp2
    go_ret
    rw [HR.out]
    exact ⟨_, rfl, OwnM.nil _ _, Below.refl _ _⟩
  · obtain ⟨i0, hi, hz0, hz1, hz2⟩ := info_parts Try.infoMk
    have HM : Hid (PlAt w a P V) := hm
    have HN : Hid (P.length = n) := hn
    obtain ⟨s, hss⟩ : ∃ s : Nat, stride = (s : Int) := ⟨stride.toNat, by omega⟩
    subst hss
    have HR : Hid (bldL (s : Int) P = bw s 0 (P.drop 0)) := by show _ = _; unfold bldL; rw [if_neg hst, Int.toNat_natCast]; rfl
    have hnI : (n : Int) ≤ 2513169434843 := by omega
    have hsI : 1 ≤ (s : Int) := by omega
    clear hm hn hst
    go_enter Try.func5, Try.ntmps5
    go_wp2
    go_loopw [5, 6] (fun vms vi wr => ∃ (v0 : Value) (i k : Nat) (acc : List Mk), v0 = vms ∧ vi = .int .i64 i ∧ (i = 0 ∨ s ≤ i ∧ i < n + s) ∧ OwnM wr w.heap.size v0 acc ∧ acc.length = k ∧ k ≤ i ∧ acc ++ bw s 0 (P.drop i) = bldL (s : Int) P ∧ Below w.heap.size w wr) (fun _ vi _ => n - (intOf vi).toNat)
    case atStart => exact ⟨_, 0, 0, [], rfl, rfl, .inl rfl, OwnM.nil _ _, rfl, Nat.le_refl _, HR.out.symm, Below.refl _ _⟩
    case round =>
      obtain ⟨v0, i, k, acc, rfl, rfl, hi0, hO, hacc, hki, hbl, hbe⟩ := hrel
      have HBL : Hid (acc ++ bw s 0 (P.drop i) = bldL (s : Int) P) := hbl
      have HO : Hid (OwnM wr w.heap.size v0 acc) := hO
      have HACC : Hid (acc.length = k) := hacc
      have hbs := hbe.size
      clear hbl hO hacc
      by_cases hin : i < n
      · obtain ⟨⟨x, z⟩, hp⟩ := get_of_lt (L := P) (k := i) (by rw [HN.out]; exact hin)
        obtain ⟨b, off, rfl, hlt, c0, c1⟩ := HM.out.at i (x, z) hp
        rw [← hbe.cell (p := ⟨b, off + i * 5, none⟩) hlt] at c0
        rw [← hbe.cell (p := ⟨b, off + i * 5 + 3, none⟩) hlt] at c1
        simp only at c0 c1
        have HNX : Hid ((acc ++ [(x, z)]) ++ bw s 0 (P.drop (i + s)) = bldL (s : Int) P) := by
          show _ = _
          rw [← HBL.out, drop_get P i _ hp]
          simp only [bw, List.append_assoc, List.singleton_append]
          rw [bw_drop s (s - 1), List.drop_drop, show i + 1 + (s - 1) = i + s from by omega]
        have HO5 : Hid ((wr.drew.alloc (.cells #[.int .i64 x, .int .i64 z] 35)).ownsRow w.heap.size 35 2 v0 k (mfl acc)) := by have h := World.ownsRow.alloc (World.ownsRow.drew HO.out) (.cells #[.int .i64 x, .int .i64 z] 35); rw [HACC.out] at h; exact h
        have HB5 : Hid (Below w.heap.size w (wr.drew.alloc (.cells #[.int .i64 x, .int .i64 z] 35))) := hbe.drew.alloc hbs _
        have HNW := cell_new2 wr.drew (.int .i64 x) (.int .i64 z) 35
        have hH : (wr.drew.alloc (.cells #[.int .i64 x, .int .i64 z] 35)).heap.size = wr.heap.size + 1 := by simp
        have hiI : (i : Int) < (n : Int) := by omega
        have hisI : (i : Int) + (s : Int) ≤ 9223372036854775807 := by omega
        clear hp
        go_wp2
        go_region_law ((refine step_append_lies _ (by rfl) _ _ 30 (by rfl) w.heap.size 35 i0 _ 2 16 Try.underlying30 hi hz0 hz1 hz2 rfl (by decide) v0 k (mfl acc) (by rfl) HO5.out ⟨wr.heap.size, 0, none⟩ 1 1 [.int .i64 x, .int .i64 z] (by rfl) (by rfl) HNW (one_new2 _ _) (by omega) (by unfold maxLen; omega) (by omega) (by simp; omega) (wr.heap.size + 1) hH ?_; intro g4 cap4 w4 ho4 hg4 hat4 hlt4; have hb4 := grown_row HB5.out HO5.out (by simp; omega) hg4; have HO4 : Hid (OwnM w4 w.heap.size (.slice (some ⟨g4, 0, none⟩) (k + 1) cap4) (acc ++ [(x, z)])) := OwnM.snoc HACC.out ho4; clear ho4 hg4 hat4 hlt4))
        all_goals go_wp2
        all_goals exact ⟨⟨_, i + s, k + 1, acc ++ [(x, z)], rfl, by go_num, .inr ⟨by omega, by omega⟩, HO4.out, by rw [List.length_append, HACC.out]; rfl, by omega, HNX.out, hb4⟩, by simp [intOf]; omega⟩
      · have HF : Hid (acc = bldL (s : Int) P) := by
          show acc = _
          rw [← HBL.out, List.drop_eq_nil_of_le (by rw [HN.out]; omega)]
          simp [bw]
        go_wp2
        go_ret
        rw [← HF.out]
        exact ⟨_, rfl, HO.out, hbe⟩
end Go.Proofs.Ytifackbilmkjlab
