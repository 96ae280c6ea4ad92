/- Own texts, joined: Mkm, MkB, MkM, MkD. -/
import Derived.Test.YtaegmeilhdbnnaaDoorJ08
import Derived.Test.YtaegmeilhdbnnaaDoorJ10
import Derived.Test.YtaegmeilhdbnnaaDoorJ09
import Derived.Deep.RegionLaw
import Derived.Deep.AppendLies
import Derived.Deep.Onto
namespace Go.Proofs.YtaegmeilhdbnnaaDoor
open Go.ChangeShapes Go.WideShapes Go.ChangeAt Go.RowKit
set_option linter.unusedVariables false
/-- what each mark is above the one ahead -/
def dls : Int → Int → List Mk → List Nat
  | _, _, [] => []
  | s, a, p :: r => (p.1 - s).toNat :: (p.2 - a).toNat :: dls p.1 p.2 r
theorem dls_length : ∀ (L : List Mk) (s a : Int), (dls s a L).length = 2 * L.length
  | [], _, _ => rfl
  | p :: r, s, a => by simp only [dls, List.length_cons, dls_length r p.1 p.2]; omega
def mEnc (L : List Mk) : List Nat := encAll (dls 0 0 L)
theorem vfrom_head {s a : Int} {p : Mk} {r : List Mk} (h : vfrom s a (p :: r) = true) : s < p.1 ∧ a < p.2 ∧ p.1 ≤ 1099511627776 ∧ p.2 ≤ 1099511627776 ∧ vfrom p.1 p.2 r = true := by
  rw [vfrom_cons] at h
  split at h
  · cases h
  · rename_i h1
    exact ⟨by omega, by omega, by omega, by omega, h⟩
theorem dls_le : ∀ (L : List Mk) (s a a' : Int), 0 ≤ s → 0 ≤ a → a ≤ a' + 1 → vfrom s a' L = true → ∀ x ∈ dls s a L, x ≤ 1099511627776
  | [], _, _, _, _, _, _, _, x, hx => by cases hx
  | p :: r, s, a, a', h0, h1, h2, hv, x, hx => by
    obtain ⟨g1, g2, g3, g4, g5⟩ := vfrom_head hv
    simp only [dls, List.mem_cons] at hx
    rcases hx with rfl | rfl | hx
    · omega
    · omega
    · exact dls_le r p.1 p.2 p.2 (by omega) (by omega) (by omega) g5 x hx
theorem mEnc_le (L : List Mk) (h : validB L = true) : ∀ x ∈ dls 0 0 L, x ≤ 18446744073709551615 := by
  have h1 : L.length ≤ 512 := by
    by_cases hh : L.length ≤ 512
    · exact hh
    · rw [validB_long (by omega)] at h; cases h
  rw [validB_short h1] at h
  intro x hx
  have := dls_le L 0 0 (-1) (by omega) (by omega) (by omega) h x hx
  omega
theorem valid_len {L : List Mk} (h : validB L = true) : L.length ≤ 512 := by
  by_cases hh : L.length ≤ 512
  · exact hh
  · rw [validB_long (by omega)] at h; cases h
theorem valid_from {L : List Mk} (h : validB L = true) : vfrom 0 (-1) L = true := by rw [← validB_short (valid_len h)]; exact h
/-- the marks that numbers add up to, behind those of acc -/
def mkN : List Mk → Int → Int → List Nat → Option (List Mk)
  | acc, s, a, x :: y :: r => if 1099511627776 < x ∨ 1099511627776 < y then none else mkN (acc ++ [(s + x, a + y)]) (s + x) (a + y) r
  | acc, _, _, _ => some acc
theorem mkN_cons (acc : List Mk) (s a : Int) (x y : Nat) (r : List Nat) : mkN acc s a (x :: y :: r) = if 1099511627776 < x ∨ 1099511627776 < y then none else mkN (acc ++ [(s + x, a + y)]) (s + x) (a + y) r := rfl
def mDec (l : List Nat) : List Mk × Nat :=
  if (decAll l 1024).2.2 ≠ 0 then ([], (decAll l 1024).2.2) else if (decAll l 1024).2.1 ≠ l.length ∨ (decAll l 1024).1.length % 2 = 1 then ([], 70) else
    match mkN [] 0 0 (decAll l 1024).1 with
    | none => ([], 70)
    | some L => if validB L = true then (L, 0) else ([], 70)
/-- a block of another type is not touched by an append -/
theorem grown_box {w w' : World} {base n size k T : Nat} {e : TypeId} {v : Value} {xs : List Value} {c : Array Value} {m : Nat × Nat} (ho : w.ownsRow base e size v n xs) (hg : w.grownBy w' v.ownBlock) (hk : w.heap[k]? = some (.cells c T m)) (hT : T ≠ e) : w'.heap[k]? = some (.cells c T m) := by
  rw [hg.block k (lt_of_heap hk) (fun h => ?_)]
  · exact hk
  · rcases ho.2 with ⟨rfl, _⟩ | ⟨g, cap, cur, rfl, _, hh, _⟩
    · simp [Value.ownBlock] at h
    · have : k = g := by simpa [Value.ownBlock] using h
      subst this
      rw [hk] at hh
      cases hh
      exact hT rfl
/-- nor by a store into that block -/
theorem own_set {w : World} {base n size k T : Nat} {e : TypeId} {v : Value} {xs : List Value} {c : Array Value} {m : Nat × Nat} (ho : w.ownsRow base e size v n xs) (hk : w.heap[k]? = some (.cells c T m)) (hT : T ≠ e) (j : Nat) (u : Value) : (w.setCell ⟨k, j, none⟩ u).ownsRow base e size v n xs := by
  refine ⟨ho.1, ?_⟩
  rcases ho.2 with h2 | ⟨g, cap, cur, h3, h4, h5, h6⟩
  · exact .inl h2
  · refine .inr ⟨g, cap, cur, h3, h4, (heap_setCell_other w ⟨k, j, none⟩ g u ?_).trans h5, h6⟩
    rintro rfl
    have h7 := hk.symm.trans h5
    cases h7
    exact hT rfl
theorem cell_new2 (w : World) (x y : Value) (e : TypeId) : ∀ j u, [x, y][j]? = some u → (w.alloc (.cells #[x, y] e)).cell? ((⟨w.heap.size, 0, none⟩ : Addr).add j) = some u := by
  intro j u hj
  have hc := cell_of_row (w.alloc (.cells #[x, y] e)) w.heap.size j #[x, y] e (0, 0) (heap_alloc_new w _)
  rw [show (⟨w.heap.size, 0, none⟩ : Addr).add j = ⟨w.heap.size, j, none⟩ from by by_cases h : j = 0 <;> simp [Addr.add, h], hc]
  simpa using hj
theorem one_new2 {k : IntKind} (n m : Int) : ∀ u ∈ [Value.int k n, Value.int k m], u.oneCell' = true := by
  intro u hu
  simp at hu
  rcases hu with rfl | rfl <;> rfl
theorem Own64.snoc2 {w : World} {base : Nat} {v : Value} {l : List Nat} {u x : Nat} (hl : ∀ i, l.getD i 0 < 18446744073709551616) (hu : u < 18446744073709551616) (hx : x < 18446744073709551616) (h : w.ownsRow base 81 1 v (l.length + 2) (B64 l ++ [.int .u64 (u : Int), .int .u64 (x : Int)])) : Own64 w base v (l ++ [u, x]) := by
  refine ⟨fun i => ?_, by rw [List.length_append, B64_append]; exact h⟩
  have h1 := hl i
  rw [List.getD_eq_getElem?_getD] at h1 ⊢
  rw [List.getElem?_append]
  split
  · exact h1
  · match i - l.length with
    | 0 => simpa using hu
    | 1 => simpa using hx
    | n + 2 => simp
theorem ret2 {v : Value} {k : IntKind} {b b' : Int} (h2 : b = b') : Ending.returned (.tuple #[v, .int k b]) = .returned (.tuple #[v, .int k b']) := by rw [h2]
theorem own_nil (w : World) (base : Nat) : Own w base (.slice none 0 0) [] := ⟨by simp, World.ownsRow_nil w base _ 1⟩
end Go.Proofs.YtaegmeilhdbnnaaDoor
namespace Go.Proofs.YtaegmeilhdbnnaaDoor
open Go.ChangeShapes Go.WideShapes Go.ChangeAt Go.RowKit
set_option linter.unusedVariables false
/-- placed frames, of which each one's number and place is told by P; V: all their cells -/
structure PlAt (w : World) (a : Option Addr) (P : List Mk) (V : List Value) : Prop where
  len : V.length = P.length * 5
  one : ∀ u ∈ V, u.oneCell' = true
  lie : P = [] ∨ ∃ b off, a = some ⟨b, off, none⟩ ∧ b < w.heap.size ∧ ∀ j, j < P.length * 5 → w.cell? ⟨b, off + j, none⟩ = V[j]?
  fld : ∀ i p, P[i]? = some p → V[i * 5]? = some (.int .i64 p.2) ∧ V[i * 5 + 3]? = some (.int .i64 p.1)
theorem PlAt.keep {w w' : World} {a : Option Addr} {P : List Mk} {V : List Value} (h : PlAt w a P V) (hb : Below w.heap.size w w') : PlAt w' a P V := by
  refine ⟨h.len, h.one, ?_, h.fld⟩
  rcases h.lie with h1 | ⟨b, off, h1, h2, h3⟩
  · exact .inl h1
  · exact .inr ⟨b, off, h1, Nat.lt_of_lt_of_le h2 hb.size, fun j hj => (hb.cell (p := ⟨b, off + j, none⟩) h2).trans (h3 j hj)⟩
theorem PlAt.at {w : World} {a : Option Addr} {P : List Mk} {V : List Value} (h : PlAt w a P V) (k : Nat) (p : Mk) (hp : P[k]? = some p) : ∃ b off, a = some ⟨b, off, none⟩ ∧ b < w.heap.size ∧ w.cell? ⟨b, off + k * 5, none⟩ = some (.int .i64 p.2) ∧ w.cell? ⟨b, off + k * 5 + 3, none⟩ = some (.int .i64 p.1) := by
  have hk := lt_of_get hp
  obtain ⟨f0, f1⟩ := h.fld k p hp
  rcases h.lie with rfl | ⟨b, off, h1, h2, h3⟩
  · simp at hk
  · exact ⟨b, off, h1, h2, (h3 (k * 5) (by omega)).trans f0, (h3 (k * 5 + 3) (by omega)).trans f1⟩
/-- every s-th, from the k-th on -/
def bw : Nat → Nat → List Mk → List Mk
  | _, _, [] => []
  | s, 0, p :: r => p :: bw s (s - 1) r
  | s, k + 1, _ :: r => bw s k r
theorem bw_drop (s : Nat) : ∀ (k : Nat) (r : List Mk), bw s k r = bw s 0 (r.drop k)
  | 0, r => rfl
  | k + 1, [] => by simp [bw]
  | k + 1, p :: r => by simp only [List.drop_succ_cons]; exact bw_drop s k r
/-- what Build answers -/
def bldL (stride : Int) (P : List Mk) : List Mk := if stride < 1 then [] else bw stride.toNat 0 P
theorem bw_len (s : Nat) : ∀ (k : Nat) (r : List Mk), (bw s k r).length ≤ r.length
  | _, [] => by simp [bw]
  | 0, p :: r => by simp only [bw, List.length_cons]; have := bw_len s (s - 1) r; omega
  | k + 1, p :: r => by simp only [bw, List.length_cons]; have := bw_len s k r; omega
theorem bldL_len (stride : Int) (P : List Mk) : (bldL stride P).length ≤ P.length := by
  unfold bldL
  split
  · simp
  · exact bw_len _ 0 P
set_option maxRecDepth 20000 in
set_option maxHeartbeats 4000000 in
theorem build_any (P : List Mk) (V : List Value) (n : Nat) (a : Option Addr) (cap : Nat) (stride : Int) (w : World) (hn : P.length = n) (hm : PlAt w a P V) (hl : n * 56 ≤ 140737488351232) (hs0 : -9223372036854775808 ≤ stride) (hs1 : stride ≤ 9223372036854775807) :
    Calls Tryd.prog 43 #[.slice a n cap, .int .i64 stride] w fun e w' => ∃ v, e = .returned v ∧ OwnM w' w.heap.size v (bldL stride P) ∧ Below w.heap.size w w' := by
  by_cases hst : stride < 1
  · have HR : Hid (bldL stride P = []) := by show _ = _; unfold bldL; rw [if_pos hst]
    clear hm hn
    go_enter Tryd.func43, Tryd.ntmps43
    go_wp2
    go_ret
    rw [HR.out]
    exact ⟨_, rfl, OwnM.nil _ _, Below.refl _ _⟩
  · obtain ⟨i0, hi, hz0, hz1, hz2⟩ := info_parts Tryd.infoMk
    have HM : Hid (PlAt w a P V) := hm
    have HN : Hid (P.length = n) := hn
    obtain ⟨s, hss⟩ : ∃ s : Nat, stride = (s : Int) := ⟨stride.toNat, by omega⟩
    subst hss
    have HR : Hid (bldL (s : Int) P = bw s 0 (P.drop 0)) := by show _ = _; unfold bldL; rw [if_neg hst, Int.toNat_natCast]; rfl
    have hnI : (n : Int) ≤ 2513169434843 := by omega
    have hsI : 1 ≤ (s : Int) := by omega
    clear hm hn hst
    go_enter Tryd.func43, Tryd.ntmps43
    go_wp2
    go_loopw [5, 6] (fun vms vi wr => ∃ (v0 : Value) (i k : Nat) (acc : List Mk), v0 = vms ∧ vi = .int .i64 i ∧ (i = 0 ∨ s ≤ i ∧ i < n + s) ∧ OwnM wr w.heap.size v0 acc ∧ acc.length = k ∧ k ≤ i ∧ acc ++ bw s 0 (P.drop i) = bldL (s : Int) P ∧ Below w.heap.size w wr) (fun _ vi _ => n - (intOf vi).toNat)
    case atStart => exact ⟨_, 0, 0, [], rfl, rfl, .inl rfl, OwnM.nil _ _, rfl, Nat.le_refl _, HR.out.symm, Below.refl _ _⟩
    case round =>
      obtain ⟨v0, i, k, acc, rfl, rfl, hi0, hO, hacc, hki, hbl, hbe⟩ := hrel
      have HBL : Hid (acc ++ bw s 0 (P.drop i) = bldL (s : Int) P) := hbl
      have HO : Hid (OwnM wr w.heap.size v0 acc) := hO
      have HACC : Hid (acc.length = k) := hacc
      have hbs := hbe.size
      clear hbl hO hacc
      by_cases hin : i < n
      · obtain ⟨⟨x, z⟩, hp⟩ := get_of_lt (L := P) (k := i) (by rw [HN.out]; exact hin)
        obtain ⟨b, off, rfl, hlt, c0, c1⟩ := HM.out.at i (x, z) hp
        rw [← hbe.cell (p := ⟨b, off + i * 5, none⟩) hlt] at c0
        rw [← hbe.cell (p := ⟨b, off + i * 5 + 3, none⟩) hlt] at c1
        simp only at c0 c1
        have HNX : Hid ((acc ++ [(x, z)]) ++ bw s 0 (P.drop (i + s)) = bldL (s : Int) P) := by
          show _ = _
          rw [← HBL.out, drop_get P i _ hp]
          simp only [bw, List.append_assoc, List.singleton_append]
          rw [bw_drop s (s - 1), List.drop_drop, show i + 1 + (s - 1) = i + s from by omega]
        have HO5 : Hid ((wr.drew.alloc (.cells #[.int .i64 x, .int .i64 z] 69)).ownsRow w.heap.size 69 2 v0 k (mfl acc)) := by have h := World.ownsRow.alloc (World.ownsRow.drew HO.out) (.cells #[.int .i64 x, .int .i64 z] 69); rw [HACC.out] at h; exact h
        have HB5 : Hid (Below w.heap.size w (wr.drew.alloc (.cells #[.int .i64 x, .int .i64 z] 69))) := hbe.drew.alloc hbs _
        have HNW := cell_new2 wr.drew (.int .i64 x) (.int .i64 z) 69
        have hH : (wr.drew.alloc (.cells #[.int .i64 x, .int .i64 z] 69)).heap.size = wr.heap.size + 1 := by simp
        have hiI : (i : Int) < (n : Int) := by omega
        have hisI : (i : Int) + (s : Int) ≤ 9223372036854775807 := by omega
        clear hp
        go_wp2
        go_region_law ((refine step_append_lies _ (by rfl) _ _ 36 (by rfl) w.heap.size 69 i0 _ 2 16 Tryd.underlying36 hi hz0 hz1 hz2 rfl (by decide) v0 k (mfl acc) (by rfl) HO5.out ⟨wr.heap.size, 0, none⟩ 1 1 [.int .i64 x, .int .i64 z] (by rfl) (by rfl) HNW (one_new2 _ _) (by omega) (by unfold maxLen; omega) (by omega) (by simp; omega) (wr.heap.size + 1) hH ?_; intro g4 cap4 w4 ho4 hg4 hat4 hlt4; have hb4 := grown_row HB5.out HO5.out (by simp; omega) hg4; have HO4 : Hid (OwnM w4 w.heap.size (.slice (some ⟨g4, 0, none⟩) (k + 1) cap4) (acc ++ [(x, z)])) := OwnM.snoc HACC.out ho4; clear ho4 hg4 hat4 hlt4))
        all_goals go_wp2
        all_goals exact ⟨⟨_, i + s, k + 1, acc ++ [(x, z)], rfl, by go_num, .inr ⟨by omega, by omega⟩, HO4.out, by rw [List.length_append, HACC.out]; rfl, by omega, HNX.out, hb4⟩, by simp [intOf]; omega⟩
      · have HF : Hid (acc = bldL (s : Int) P) := by
          show acc = _
          rw [← HBL.out, List.drop_eq_nil_of_le (by rw [HN.out]; omega)]
          simp [bw]
        go_wp2
        go_ret
        rw [← HF.out]
        exact ⟨_, rfl, HO.out, hbe⟩
set_option maxRecDepth 20000 in
set_option maxHeartbeats 4000000 in
theorem rbuild_any (P : List Mk) (V : List Value) (n : Nat) (a : Option Addr) (cap : Nat) (stride : Int) (w : World) (hn : P.length = n) (hm : PlAt w a P V) (hl : n * 56 ≤ 140737488351232) (hs0 : -9223372036854775808 ≤ stride) (hs1 : stride ≤ 9223372036854775807) :
    Calls Tryd.prog 39 #[.slice a n cap, .int .i64 stride] w fun e w' => ∃ v, e = .returned v ∧ OwnM w' w.heap.size v (bldL stride P) ∧ Below w.heap.size w w' := by
  obtain ⟨i0, hi, hz0, hz1, hz2⟩ := info_parts Tryd.infoMk
  have HM : Hid (PlAt w a P V) := hm
  have HN : Hid (P.length = n) := hn
  have hnI : (n : Int) ≤ 2513169434843 := by omega
  clear hm hn
  by_cases hst : stride < 1
  · have HR : Hid (bldL stride P = []) := by show _ = _; unfold bldL; rw [if_pos hst]
    have hg : decide (1 ≤ stride) = false := by simp; omega
    go_enter Tryd.func39, Tryd.ntmps39
    go_wp2
    go_loopw [5, 6, 11] (fun vms vw vi wr => ∃ (v0 : Value) (k : Nat), v0 = vms ∧ k ≤ n ∧ vw = .int .i64 (-(k : Int)) ∧ vi = .int .i64 k ∧ OwnM wr w.heap.size v0 [] ∧ Below w.heap.size w wr) (fun _ _ vi _ => n - (intOf vi).toNat)
    case atStart => exact ⟨_, 0, rfl, Nat.zero_le _, rfl, rfl, OwnM.lit w, (Below.refl _ _).alloc (Nat.le_refl _) _⟩
    case round =>
      obtain ⟨v0, k, rfl, hk, rfl, rfl, hO, hbe⟩ := hrel
      have HO : Hid (OwnM wr w.heap.size v0 []) := hO
      clear hO
      by_cases hin : k < n
      · go_wp2
        go_roundw
        case rel => exact ⟨_, k + 1, rfl, by omega, by congr 1; omega, by go_num, HO.out, hbe⟩
        case measure => simp [intOf]; omega
      · go_wp2
        go_ret
        rw [HR.out]
        exact ⟨_, rfl, HO.out, hbe⟩
  · obtain ⟨s, hss⟩ : ∃ s : Nat, stride = (s : Int) := ⟨stride.toNat, by omega⟩
    subst hss
    have HR : Hid (bldL (s : Int) P = bw s 0 (P.drop 0)) := by show _ = _; unfold bldL; rw [if_neg hst, Int.toNat_natCast]; rfl
    have hsI : 1 ≤ (s : Int) := by omega
    have hg : decide (1 ≤ (s : Int)) = true := by simp; omega
    clear hst
    go_enter Tryd.func39, Tryd.ntmps39
    go_wp2
    go_loopw [5, 6, 11] (fun vms vw vi wr => ∃ (v0 : Value) (i k wt : Nat) (acc : List Mk), v0 = vms ∧ vw = .int .i64 wt ∧ vi = .int .i64 i ∧ wt ≤ s ∧ i ≤ n ∧ OwnM wr w.heap.size v0 acc ∧ acc.length = k ∧ k ≤ i ∧ acc ++ bw s wt (P.drop i) = bldL (s : Int) P ∧ Below w.heap.size w wr) (fun _ _ vi _ => n - (intOf vi).toNat)
    case atStart => exact ⟨_, 0, 0, 0, [], rfl, rfl, rfl, Nat.zero_le _, Nat.zero_le _, OwnM.lit w, rfl, Nat.le_refl _, HR.out.symm, (Below.refl _ _).alloc (Nat.le_refl _) _⟩
    case round =>
      obtain ⟨v0, i, k, wt, acc, rfl, rfl, rfl, hwt, hin0, hO, hacc, hki, hbl, hbe⟩ := hrel
      have HBL : Hid (acc ++ bw s wt (P.drop i) = bldL (s : Int) P) := hbl
      have HO : Hid (OwnM wr w.heap.size v0 acc) := hO
      have HACC : Hid (acc.length = k) := hacc
      have hbs := hbe.size
      clear hbl hO hacc
      by_cases hin : i < n
      · obtain ⟨⟨x, z⟩, hp⟩ := get_of_lt (L := P) (k := i) (by rw [HN.out]; exact hin)
        cases wt with
        | zero =>
          obtain ⟨b, off, rfl, hlt, c0, c1⟩ := HM.out.at i (x, z) hp
          rw [← hbe.cell (p := ⟨b, off + i * 5, none⟩) hlt] at c0
          rw [← hbe.cell (p := ⟨b, off + i * 5 + 3, none⟩) hlt] at c1
          simp only at c0 c1
          have HNX : Hid ((acc ++ [(x, z)]) ++ bw s (s - 1) (P.drop (i + 1)) = bldL (s : Int) P) := by
            show _ = _
            rw [← HBL.out, drop_get P i _ hp]
            simp only [bw, List.append_assoc, List.singleton_append]
          have HO5 : Hid ((wr.drew.alloc (.cells #[.int .i64 x, .int .i64 z] 69)).ownsRow w.heap.size 69 2 v0 k (mfl acc)) := by have h := World.ownsRow.alloc (World.ownsRow.drew HO.out) (.cells #[.int .i64 x, .int .i64 z] 69); rw [HACC.out] at h; exact h
          have HB5 : Hid (Below w.heap.size w (wr.drew.alloc (.cells #[.int .i64 x, .int .i64 z] 69))) := hbe.drew.alloc hbs _
          have HNW := cell_new2 wr.drew (.int .i64 x) (.int .i64 z) 69
          have hH : (wr.drew.alloc (.cells #[.int .i64 x, .int .i64 z] 69)).heap.size = wr.heap.size + 1 := by simp
          have hiI : (i : Int) < (n : Int) := by omega
          clear hp
          go_wp2
          go_region_law ((refine step_append_lies _ (by rfl) _ _ 36 (by rfl) w.heap.size 69 i0 _ 2 16 Tryd.underlying36 hi hz0 hz1 hz2 rfl (by decide) v0 k (mfl acc) (by rfl) HO5.out ⟨wr.heap.size, 0, none⟩ 1 1 [.int .i64 x, .int .i64 z] (by rfl) (by rfl) HNW (one_new2 _ _) (by omega) (by unfold maxLen; omega) (by omega) (by simp; omega) (wr.heap.size + 1) hH ?_; intro g4 cap4 w4 ho4 hg4 hat4 hlt4; have hb4 := grown_row HB5.out HO5.out (by simp; omega) hg4; have HO4 : Hid (OwnM w4 w.heap.size (.slice (some ⟨g4, 0, none⟩) (k + 1) cap4) (acc ++ [(x, z)])) := OwnM.snoc HACC.out ho4; clear ho4 hg4 hat4 hlt4))
          all_goals go_wp2
          all_goals exact ⟨⟨_, i + 1, k + 1, s - 1, acc ++ [(x, z)], rfl, by congr 1; omega, by go_num, by omega, by omega, HO4.out, by rw [List.length_append, HACC.out]; rfl, by omega, HNX.out, hb4⟩, by simp [intOf]; omega⟩
        | succ wt =>
          have HNX : Hid (acc ++ bw s wt (P.drop (i + 1)) = bldL (s : Int) P) := by
            show _ = _
            rw [← HBL.out, drop_get P i _ hp]
            rfl
          have hw0 : (((wt + 1 : Nat) : Int) == 0) = false := by simp; omega
          have hw1 : ((wt : Int) + 1 == 0) = false := by simp; omega
          clear hp
          go_wp2
          go_roundw
          case rel => exact ⟨_, i + 1, k, wt, acc, rfl, by congr 1, by go_num, by omega, by omega, HO.out, HACC.out, by omega, HNX.out, hbe⟩
          case measure => simp [intOf]; omega
      · have HF : Hid (acc = bldL (s : Int) P) := by
          show acc = _
          rw [← HBL.out, List.drop_eq_nil_of_le (by rw [HN.out]; omega)]
          cases wt <;> simp [bw]
        go_wp2
        go_ret
        rw [← HF.out]
        exact ⟨_, rfl, HO.out, hbe⟩
end Go.Proofs.YtaegmeilhdbnnaaDoor
namespace Go.Proofs.YtaegmeilhdbnnaaDoor
open Go.ChangeShapes Go.WideShapes Go.ChangeAt Go.RowKit
set_option linter.unusedVariables false
def mksR (U : List Nat) : List Mk × Bool :=
  if U.length % 2 = 1 then ([], false) else match mkN [] 0 0 U with
    | none => ([], false)
    | some M => (M, true)
theorem mk_drewN {w : World} {k : Nat} {s y : Int} (h : MkAt w k s y) (n : Nat) : MkAt (w.drewN n) k s y := by
  unfold MkAt at *; simpa using h
theorem row_drewN {w : World} {base n size : Nat} {e : TypeId} {v : Value} {xs : List Value} (h : w.ownsRow base e size v n xs) (m : Nat) : (w.drewN m).ownsRow base e size v n xs := by
  induction m with
  | zero => exact h
  | succ m ih => exact World.ownsRow.drew ih
theorem own_at {w : World} {base n size g cap k : Nat} {e : TypeId} {xs : List Value} (h : w.ownsRow base e size (.slice (some ⟨g, 0, none⟩) n cap) n xs) (hk : g ≠ k) (j : Nat) (u : Value) : (w.setCell ⟨k, j, none⟩ u).ownsRow base e size (.slice (some ⟨g, 0, none⟩) n cap) n xs := by
  refine ⟨h.1, ?_⟩
  rcases h.2 with ⟨h2, _⟩ | ⟨g', cap', cur, h3, h4, h5, h6⟩
  · cases h2
  · cases h3
    exact .inr ⟨g, cap, cur, rfl, h4, (heap_setCell_other w ⟨k, j, none⟩ g u hk).trans h5, h6⟩
theorem drop_two (U : List Nat) (j x y : Nat) (h1 : U[j]? = some x) (h2 : U[j + 1]? = some y) : U.drop j = x :: y :: U.drop (j + 2) := by
  rw [drop_get U j x h1, drop_get U (j + 1) y h2]
theorem one_mk (x z : Int) : ∀ u ∈ [Value.int .i64 x, Value.int .i64 z], u.oneCell' = true := one_new2 x z
theorem retb {v : Value} {b b' : Bool} (h2 : b = b') : Ending.returned (.tuple #[v, .bool b]) = .returned (.tuple #[v, .bool b']) := by rw [h2]
set_option maxRecDepth 20000 in
set_option maxHeartbeats 4000000 in
theorem marks_any (U : List Nat) (n : Nat) (a : Option Addr) (cap : Nat) (w : World) (hn : U.length = n) (hm : Nums w a U) (hl : n ≤ 1024) :
    Calls Tryd.prog 75 #[.slice a n cap] w fun e w' => ∃ v, e = .returned (.tuple #[v, .bool (mksR U).2]) ∧ OwnM w' w.heap.size v (mksR U).1 ∧ Below w.heap.size w w' := by
  have HM : Hid (Nums w a U) := hm
  have HN : Hid (U.length = n) := hn
  by_cases hodd : n % 2 = 1
  · have HR : Hid (mksR U = ([], false)) := by show _ = _; unfold mksR; rw [hn, if_pos hodd]
    have hnb : (((n : Int) % 2) != 0) = true := by simp; omega
    clear hm hn
    go_enter Tryd.func75, Tryd.ntmps75
    go_wp2
    go_ret2
    rw [HR.out]
    exact ⟨_, rfl, OwnM.nil _ _, Below.refl _ _⟩
  · obtain ⟨C, hC⟩ : ∃ C, n = 2 * C := ⟨n / 2, by omega⟩
    obtain ⟨i0, hi, hz0, hz1, hz2⟩ := info_parts Tryd.infoMk
    have HR : Hid (mksR U = match mkN [] 0 0 U with | none => ([], false) | some M => (M, true)) := by show _ = _; unfold mksR; rw [hn, if_neg hodd]
    have hnb : (((n : Int) % 2) != 0) = false := by simp; omega
    have hnI : (n : Int) ≤ 1024 := by omega
    have hdv : (n : Int) / 2 = (C : Int) := by omega
    have hC5 : C ≤ 512 := by omega
    have HC : Hid (n = 2 * C) := hC
    clear hm hn hodd hC
    go_enter Tryd.func75, Tryd.ntmps75
    go_wp2_with (at_make; refine wpList_make_own _ rfl _ _ 36 rfl w.heap.size 69 i0 (.agg #[.int .i64 0, .int .i64 0]) 2 Tryd.underlying36 hi hz0 hz1 _ _ _ C rfl rfl (by first | omega | simp) (by rw [hz2]; omega) (by unfold maxLen; omega) (Nat.le_refl _) ?_)
    intro w2 ho hg
    have hb2 : Below w.heap.size w w2 := (Below.refl _ _).grown hg (Nat.le_refl _) (fun k hk => by cases hk)
    have hgl : w.heap.size < w2.heap.size := (World.ownsRow.lt ho _ rfl).2
    have HOW : Hid (w2.ownsRow w.heap.size 69 2 (.slice (some ⟨w.heap.size, 0, none⟩) 0 C) 0 []) := ho
    clear ho hg
    go_wp2
    go_loopw [4, 6] (fun vms vi wr => ∃ (j i : Nat) (s y : Int) (acc : List Mk), vms = .slice (some ⟨w.heap.size, 0, none⟩) j C ∧ vi = .int .i64 i ∧ i = 2 * j ∧ i ≤ n ∧ MkAt wr w2.heap.size s y ∧ wr.ownsRow w.heap.size 69 2 (.slice (some ⟨w.heap.size, 0, none⟩) j C) j (mfl acc) ∧ acc.length = j ∧ mkN [] 0 0 U = mkN acc s y (U.drop i) ∧ 0 ≤ s ∧ 0 ≤ y ∧ s ≤ j * 1099511627776 ∧ y ≤ j * 1099511627776 ∧ Below w.heap.size w wr) (fun _ vi _ => n - (intOf vi).toNat)
    case atStart => exact ⟨0, 0, 0, 0, [], rfl, rfl, rfl, Nat.zero_le _, heap_alloc_new w2 _, World.ownsRow.alloc HOW.out _, rfl, rfl, by omega, by omega, by omega, by omega, hb2.alloc hb2.size _⟩
    case round =>
      obtain ⟨j, i, s, y, acc, rfl, rfl, hij, hin, hbx, hO, hacc, hmk, hs0, hy0, hs1, hy1, hbe⟩ := hrel
      have HBX : Hid (MkAt wr w2.heap.size s y) := hbx
      have HO : Hid (wr.ownsRow w.heap.size 69 2 (.slice (some ⟨w.heap.size, 0, none⟩) j C) j (mfl acc)) := hO
      have HACC : Hid (acc.length = j) := hacc
      have HMK : Hid (mkN [] 0 0 U = mkN acc s y (U.drop i)) := hmk
      have hlt2 := lt_of_heap hbx
      have hbs := hbe.size
      have hjI : (j : Int) ≤ 512 := by have := HC.out; omega
      have HIJ : Hid (i = 2 * j) := hij
      have HS1 : Hid (s ≤ j * 1099511627776 ∧ y ≤ j * 1099511627776) := ⟨hs1, hy1⟩
      have hs2 : s ≤ 562949953421312 := by omega
      have hy2 : y ≤ 562949953421312 := by omega
      by_cases hkn : i < n
      · rcases HM.out.2 with h0 | ⟨b, off, rfl, hlt, hc⟩
        · exfalso; have := HN.out; rw [h0] at this; simp at this; omega
        have hi1 : i + 1 < n := by have := HC.out; omega
        have c0 := hc i (by rw [HN.out]; exact hkn)
        have c1 := hc (i + 1) (by rw [HN.out]; omega)
        rw [← hbe.cell (p := ⟨b, off + i, none⟩) hlt] at c0
        rw [← hbe.cell (p := ⟨b, off + (i + 1), none⟩) hlt] at c1
        obtain ⟨p, hp⟩ := get_of_lt (L := U) (k := i) (by rw [HN.out]; exact hkn)
        obtain ⟨q, hq⟩ := get_of_lt (L := U) (k := i + 1) (by rw [HN.out]; omega)
        rw [show U.getD i 0 = p from by rw [List.getD_eq_getElem?_getD, hp]; rfl] at c0
        rw [show U.getD (i + 1) 0 = q from by rw [List.getD_eq_getElem?_getD, hq]; rfl] at c1
        have hi1n : (i : Int) + 1 < (n : Int) := by omega
        have hi0n : (i : Int) < (n : Int) := by omega
        have HST : Hid (mkN [] 0 0 U = if 1099511627776 < p ∨ 1099511627776 < q then none else mkN (acc ++ [(s + p, y + q)]) (s + p) (y + q) (U.drop (i + 2))) := by show _ = _; rw [hmk, drop_two U i p q hp hq, mkN_cons]
        obtain ⟨q0, q1, q2, q3⟩ := mk_box hbx
        clear hp hq hc hmk hbx hO hacc HMK HOW hb2 hij hs1 hy1
        have HNO : Hid (1099511627776 < p ∨ 1099511627776 < q → mksR U = ([], false)) := by intro h; rw [HR.out, HST.out, if_pos h]
        have hjC : j + 1 ≤ C := by have := HC.out; have := HIJ.out; omega
        go_wp2
        go_quiet (fail)
        have HB : Hid (Below w.heap.size w ((((wr.drewN nq).setCell ⟨w2.heap.size, 0, none⟩ (.int .i64 (s + p))).setCell ⟨w2.heap.size, 1, none⟩ (.int .i64 (y + q))).alloc (.cells #[.int .i64 (s + p), .int .i64 (y + q)] 69))) := (((below_drewN hbe nq).setCell (p := ⟨w2.heap.size, 0, none⟩) (by show w.heap.size ≤ w2.heap.size; omega) _).setCell (p := ⟨w2.heap.size, 1, none⟩) (by show w.heap.size ≤ w2.heap.size; omega) _).alloc (by simp; omega) _
        have HA : Hid (MkAt ((((wr.drewN nq).setCell ⟨w2.heap.size, 0, none⟩ (.int .i64 (s + p))).setCell ⟨w2.heap.size, 1, none⟩ (.int .i64 (y + q))).alloc (.cells #[.int .i64 (s + p), .int .i64 (y + q)] 69)) w2.heap.size (s + p) (y + q)) := mk_alloc (mk_set (mk_drewN HBX.out nq) _ _) _
        have HO5 : Hid (((((wr.drewN nq).setCell ⟨w2.heap.size, 0, none⟩ (.int .i64 (s + p))).setCell ⟨w2.heap.size, 1, none⟩ (.int .i64 (y + q))).alloc (.cells #[.int .i64 (s + p), .int .i64 (y + q)] 69)).ownsRow w.heap.size 69 2 (.slice (some ⟨w.heap.size, 0, none⟩) j C) j (mfl acc)) := World.ownsRow.alloc (own_at (own_at (row_drewN HO.out nq) (by omega) 0 _) (by omega) 1 _) _
        go_wp2_with (at_builtin; refine wpList_append_fits _ rfl _ _ 36 rfl w.heap.size 69 i0 2 Tryd.underlying36 hi hz1 w.heap.size j C (mfl acc) rfl HO5.out ⟨wr.heap.size, 0, none⟩ 1 1 [.int .i64 (s + p), .int .i64 (y + q)] rfl rfl (by have h := cell_new2 (((wr.drewN nq).setCell ⟨w2.heap.size, 0, none⟩ (.int .i64 (s + p))).setCell ⟨w2.heap.size, 1, none⟩ (.int .i64 (y + q))) (.int .i64 (s + p)) (.int .i64 (y + q)) 69; simpa using h) (one_mk _ _) hjC ?_; intro w4 ho4 hg4; have hb4 := HB.out.grown hg4 (by simp; omega) (fun k hk => by cases hk; exact Nat.le_refl _); have HA4 : Hid (MkAt w4 w2.heap.size (s + p) (y + q)) := (hg4.block _ (lt_of_heap HA.out) (by simp; omega)).trans HA.out; have HO4 : Hid (w4.ownsRow w.heap.size 69 2 (.slice (some ⟨w.heap.size, 0, none⟩) (j + 1) C) (j + 1) (mfl (acc ++ [(s + p, y + q)]))) := (by rw [mfl_append]; exact ho4); clear ho4 hg4)
        all_goals first
          | (go_ret2; rw [HNO.out (by omega)]; exact ⟨_, rfl, OwnM.nil _ _, below_drewN hbe _⟩)
          | (refine ⟨⟨j + 1, i + 2, s + p, y + q, acc ++ [(s + p, y + q)], rfl, by go_num, by have := HIJ.out; omega, by omega, HA4.out, HO4.out, by rw [List.length_append, HACC.out]; rfl, by rw [HST.out, if_neg (by omega)], by omega, by omega, by have := HS1.out; omega, by have := HS1.out; omega, hb4⟩, by simp [intOf]; omega⟩)
      · have HFIN : Hid (mksR U = (acc, true)) := by
          show _ = _
          rw [HR.out, HMK.out, List.drop_eq_nil_of_le (by rw [HN.out]; omega)]
          rfl
        clear hbx hO hacc hmk HMK HOW hb2 hij hs1 hy1
        go_wp2
        go_ret2
        rw [HFIN.out]
        exact ⟨_, rfl, by unfold OwnM; rw [HACC.out]; exact HO.out, hbe⟩
end Go.Proofs.YtaegmeilhdbnnaaDoor
namespace Go.Proofs.YtaegmeilhdbnnaaDoor
open Go.ChangeShapes Go.WideShapes Go.ChangeAt Go.RowKit
set_option linter.unusedVariables false
theorem decN_len : ∀ (c : Nat) (l : List Nat) (p : Nat) (acc : List Nat), (vdecN c l p acc).2.2 = 0 → (vdecN c l p acc).1.length = acc.length + c
  | 0, l, p, acc, h => rfl
  | c + 1, l, p, acc, h => by
    obtain ⟨u, k, e, hd⟩ : ∃ u k e, dec 0 0 (l.drop p) = (u, k, e) := ⟨_, _, _, rfl⟩
    rw [decN_succ c l p acc u k e hd] at h ⊢
    by_cases he : e = 0
    · rw [if_pos he] at h ⊢
      rw [decN_len c l (p + k) (acc ++ [u]) h, List.length_append]
      simp only [List.length_cons, List.length_nil]
      omega
    · rw [if_neg he] at h
      exact absurd h he
theorem decAll_len {l U : List Nat} {p : Nat} (h : decAll l 1024 = (U, p, 0)) : U.length ≤ 1024 := by
  unfold decAll at h
  split at h
  · rename_i h1
    have h2 := congrArg (fun x => x.2.2) h
    exact absurd h2 h1
  · split at h
    · cases h
    · rename_i h1 h2
      have h3 := decN_len (dec 0 0 l).1 l (dec 0 0 l).2.1 [] (by rw [h])
      rw [h] at h3
      simp only [List.length_nil] at h3
      have : (1024 : Int).toNat = 1024 := rfl
      omega
theorem mDec_bad {l U : List Nat} {p e : Nat} (h : decAll l 1024 = (U, p, e)) (he : e ≠ 0) : mDec l = ([], e) := by
  unfold mDec
  rw [h]
  simp only
  rw [if_pos he]
theorem mDec_eq {l U : List Nat} {p : Nat} (h : decAll l 1024 = (U, p, 0)) : mDec l = if p ≠ l.length ∨ (mksR U).2 = false ∨ validB (mksR U).1 = false then ([], 70) else ((mksR U).1, 0) := by
  unfold mDec mksR
  rw [h]
  simp only
  rw [if_neg (by simp)]
  by_cases h1 : p ≠ l.length
  · rw [if_pos (.inl h1), if_pos (.inl h1)]
  · by_cases h2 : U.length % 2 = 1
    · rw [if_pos (.inr h2), if_pos h2]
      simp
    · have h3 : ¬ (p ≠ l.length ∨ U.length % 2 = 1) := fun h => h.elim h1 h2
      rw [if_neg h3, if_neg h2]
      have h4 : p = l.length := by simpa using h1
      cases mkN [] 0 0 U with
      | none => simp
      | some M => by_cases hv : validB M = true <;> simp [hv, h4]
theorem nums_of {w : World} {base : Nat} {v : Value} {U : List Nat} (h : Own64 w base v U) (n : Nat) (hn : U.length = n) : ∃ a c, v = .slice a n c ∧ Nums w a U := by
  obtain ⟨a, c, h1, h2⟩ := h.slice
  exact ⟨a, c, by rw [h1, hn], h2⟩
theorem marks_of {w : World} {base : Nat} {v : Value} {L : List Mk} (h : OwnM w base v L) (n : Nat) (hn : L.length = n) : ∃ a c, v = .slice a n c ∧ Marks w a L ∧ n ≤ maxLen := by
  obtain ⟨a, c, h1, h2, h3, h4, _⟩ := h.shape
  exact ⟨a, c, by rw [h1, hn], h4, by omega⟩
set_option maxRecDepth 20000 in
set_option maxHeartbeats 4000000 in
theorem idec_any (l : List Nat) (n : Nat) (a : Option Addr) (cap : Nat) (w : World) (hn : l.length = n) (hb : Bytes w a l) (hcap : n ≤ cap) (hl : n ≤ 140737488351232) :
    Calls Tryd.prog 48 #[.slice a n cap] w fun e w' => ∃ v, e = .returned (.tuple #[v, .int .i64 (mDec l).2]) ∧ OwnM w' w.heap.size v (mDec l).1 ∧ Below w.heap.size w w' := by
  obtain ⟨U, p, e, hd⟩ : ∃ U p e, decAll l 1024 = (U, p, e) := ⟨_, _, _, rfl⟩
  have HD : Hid (decAll l 1024 = (U, p, e)) := hd
  have HX : Hid (l.length = n ∧ Bytes w a l ∧ n ≤ cap ∧ n ≤ 140737488351232) := ⟨hn, hb, hcap, hl⟩
  by_cases he : e = 0
  · subst he
    have hu := decAll_len hd
    have HE : Hid (mDec l = if p ≠ l.length ∨ (mksR U).2 = false ∨ validB (mksR U).1 = false then ([], 70) else ((mksR U).1, 0)) := mDec_eq hd
    have HN : Hid (l.length = n) := hn
    obtain ⟨m, hm⟩ : ∃ m, U.length = m := ⟨_, rfl⟩
    have HM : Hid (U.length = m) := hm
    obtain ⟨K, hK⟩ : ∃ K, (mksR U).1.length = K := ⟨_, rfl⟩
    have HK : Hid ((mksR U).1.length = K) := hK
    rw [hm] at hu
    cases hok : (mksR U).2 with
    | false =>
      have HOK : Hid ((mksR U).2 = false) := hok
      have HR : Hid (mDec l = ([], 70)) := by show _ = _; rw [HE.out, if_pos (.inr (.inl hok))]
      by_cases hpn : p = n
      · have hq : ((p : Int) != (n : Int)) = false := by simp [hpn]
        clear hd hn hb hm hK hpn hl hcap
        go_enter Tryd.func48, Tryd.ntmps48
        go_wp2_with (first
          | (go_at_call 74; refine (decAll_any l 1024 _ _ _ _ HX.out.1 HX.out.2.1 HX.out.2.2.1 HX.out.2.2.2 (by omega) (by omega) (by omega)).mono ?_; rw [HD.out]; rintro x w1 ⟨v1, rfl, ho1, hb1⟩; obtain ⟨a1, c1, rfl, hnm1⟩ := nums_of ho1 m HM.out; clear ho1; have hs1 := hb1.size)
          | (go_at_call 75; refine (marks_any U _ _ _ _ HM.out hnm1 (by omega)).mono ?_; rw [HOK.out]; rintro x w2 ⟨v2, rfl, ho2, hb2⟩; obtain ⟨a2, c2, rfl, hmk2, hln2⟩ := marks_of ho2 K HK.out; clear ho2; have hb2w := below_next hb1 hb2))
        go_ret2
        rw [HR.out]
        exact ⟨_, rfl, OwnM.nil _ _, hb2w⟩
      · have hq : ((p : Int) != (n : Int)) = true := by simp; omega
        clear hd hn hb hm hK hpn hl hcap
        go_enter Tryd.func48, Tryd.ntmps48
        go_wp2_with (first
          | (go_at_call 74; refine (decAll_any l 1024 _ _ _ _ HX.out.1 HX.out.2.1 HX.out.2.2.1 HX.out.2.2.2 (by omega) (by omega) (by omega)).mono ?_; rw [HD.out]; rintro x w1 ⟨v1, rfl, ho1, hb1⟩; obtain ⟨a1, c1, rfl, hnm1⟩ := nums_of ho1 m HM.out; clear ho1; have hs1 := hb1.size)
          | (go_at_call 75; refine (marks_any U _ _ _ _ HM.out hnm1 (by omega)).mono ?_; rw [HOK.out]; rintro x w2 ⟨v2, rfl, ho2, hb2⟩; obtain ⟨a2, c2, rfl, hmk2, hln2⟩ := marks_of ho2 K HK.out; clear ho2; have hb2w := below_next hb1 hb2))
        go_ret2
        rw [HR.out]
        exact ⟨_, rfl, OwnM.nil _ _, hb2w⟩
    | true =>
      have HOK : Hid ((mksR U).2 = true) := hok
      by_cases hpn : p = n
      · have hq : ((p : Int) != (n : Int)) = false := by simp [hpn]
        cases hvb : validB (mksR U).1 with
        | false =>
          have HV : Hid (validB (mksR U).1 = false) := hvb
          have HR : Hid (mDec l = ([], 70)) := by show _ = _; rw [HE.out, if_pos (.inr (.inr hvb))]
          clear hd hn hb hm hK hpn hl hcap
          go_enter Tryd.func48, Tryd.ntmps48
          go_wp2_with (first
            | (go_at_call 74; refine (decAll_any l 1024 _ _ _ _ HX.out.1 HX.out.2.1 HX.out.2.2.1 HX.out.2.2.2 (by omega) (by omega) (by omega)).mono ?_; rw [HD.out]; rintro x w1 ⟨v1, rfl, ho1, hb1⟩; obtain ⟨a1, c1, rfl, hnm1⟩ := nums_of ho1 m HM.out; clear ho1; have hs1 := hb1.size)
            | (go_at_call 75; refine (marks_any U _ _ _ _ HM.out hnm1 (by omega)).mono ?_; rw [HOK.out]; rintro x w2 ⟨v2, rfl, ho2, hb2⟩; obtain ⟨a2, c2, rfl, hmk2, hln2⟩ := marks_of ho2 K HK.out; clear ho2; have hb2w := below_next hb1 hb2)
            | (go_at_call 76; refine (valid_any (mksR U).1 _ _ _ _ HK.out hmk2 hln2).mono ?_; rw [HV.out]; rintro x w3 ⟨rfl, hb3⟩; have hb3w := below_next hb2w hb3))
          go_ret2
          rw [HR.out]
          exact ⟨_, rfl, OwnM.nil _ _, hb3w⟩
        | true =>
          have HV : Hid (validB (mksR U).1 = true) := hvb
          have HR : Hid (mDec l = ((mksR U).1, 0)) := by show _ = _; rw [HE.out, if_neg (by rw [hok, hvb, hn, hpn]; simp)]
          clear hd hn hb hm hK hpn hl hcap
          go_enter Tryd.func48, Tryd.ntmps48
          go_wp2_with (first
            | (go_at_call 74; refine (decAll_any l 1024 _ _ _ _ HX.out.1 HX.out.2.1 HX.out.2.2.1 HX.out.2.2.2 (by omega) (by omega) (by omega)).mono ?_; rw [HD.out]; rintro x w1 ⟨v1, rfl, ho1, hb1⟩; obtain ⟨a1, c1, rfl, hnm1⟩ := nums_of ho1 m HM.out; clear ho1; have hs1 := hb1.size)
            | (go_at_call 75; refine (marks_any U _ _ _ _ HM.out hnm1 (by omega)).mono ?_; rw [HOK.out]; rintro x w2 ⟨v2, rfl, ho2, hb2⟩; have HO2 : Hid (OwnM w2 w1.heap.size v2 (mksR U).1) := ho2; obtain ⟨a2, c2, rfl, hmk2, hln2⟩ := marks_of ho2 K HK.out; clear ho2; have hb2w := below_next hb1 hb2)
            | (go_at_call 76; refine (valid_any (mksR U).1 _ _ _ _ HK.out hmk2 hln2).mono ?_; rw [HV.out]; rintro x w3 ⟨rfl, hb3⟩; have hb3w := below_next hb2w hb3; have HO3 : Hid (OwnM w3 w.heap.size (.slice a2 K c2) (mksR U).1) := World.ownsRow.mono (own_below HO2.out hb3) hs1))
          go_ret2
          rw [HR.out]
          exact ⟨_, rfl, HO3.out, hb3w⟩
      · have hq : ((p : Int) != (n : Int)) = true := by simp; omega
        have HR : Hid (mDec l = ([], 70)) := by show _ = _; rw [HE.out, if_pos (.inl (by rw [hn]; exact hpn))]
        clear hd hn hb hm hK hpn hl hcap
        go_enter Tryd.func48, Tryd.ntmps48
        go_wp2_with (first
          | (go_at_call 74; refine (decAll_any l 1024 _ _ _ _ HX.out.1 HX.out.2.1 HX.out.2.2.1 HX.out.2.2.2 (by omega) (by omega) (by omega)).mono ?_; rw [HD.out]; rintro x w1 ⟨v1, rfl, ho1, hb1⟩; obtain ⟨a1, c1, rfl, hnm1⟩ := nums_of ho1 m HM.out; clear ho1; have hs1 := hb1.size)
          | (go_at_call 75; refine (marks_any U _ _ _ _ HM.out hnm1 (by omega)).mono ?_; rw [HOK.out]; rintro x w2 ⟨v2, rfl, ho2, hb2⟩; obtain ⟨a2, c2, rfl, hmk2, hln2⟩ := marks_of ho2 K HK.out; clear ho2; have hb2w := below_next hb1 hb2))
        go_ret2
        rw [HR.out]
        exact ⟨_, rfl, OwnM.nil _ _, hb2w⟩
  · have HR : Hid (mDec l = ([], e)) := mDec_bad hd he
    have heb : ((e : Int) != 0) = true := by simp; omega
    clear hd hn hb he hl hcap
    go_enter Tryd.func48, Tryd.ntmps48
    go_wp2_with (go_at_call 74; refine (decAll_any l 1024 _ _ _ _ HX.out.1 HX.out.2.1 HX.out.2.2.1 HX.out.2.2.2 (by omega) (by omega) (by omega)).mono ?_; rw [HD.out]; rintro x w1 ⟨v1, rfl, ho1, hb1⟩)
    go_ret2
    rw [HR.out]
    exact ⟨_, rfl, OwnM.nil _ _, hb1⟩
end Go.Proofs.YtaegmeilhdbnnaaDoor
