/- Own texts, joined: Mkm, MkB. -/
import Derived.Test.YtfnkhpijcbpeoaaDoorK23
import Derived.Test.YtfnkhpijcbpeoaaDoorK27
import Derived.Test.YtfnkhpijcbpeoaaDoorK24
import Derived.Deep.RegionLaw
import Derived.Deep.AppendLies
namespace Go.Proofs.YtfnkhpijcbpeoaaDoor
open Go.ChangeShapes Go.WideShapes Go.ChangeAt Go.RowKit
set_option linter.unusedVariables false
/-- what each mark is above the one ahead -/
def dls : Int → Int → List Mk → List Nat
  | _, _, [] => []
  | s, a, p :: r => (p.1 - s).toNat :: (p.2 - a).toNat :: dls p.1 p.2 r
theorem dls_length : ∀ (L : List Mk) (s a : Int), (dls s a L).length = 2 * L.length
  | [], _, _ => rfl
  | p :: r, s, a => by simp only [dls, List.length_cons, dls_length r p.1 p.2]; omega
def mEnc (L : List Mk) : List Nat := encAll (dls 0 0 L)
theorem vfrom_head {s a : Int} {p : Mk} {r : List Mk} (h : vfrom s a (p :: r) = true) : s < p.1 ∧ a < p.2 ∧ p.1 ≤ 1099511627776 ∧ p.2 ≤ 1099511627776 ∧ vfrom p.1 p.2 r = true := by
  rw [vfrom_cons] at h
  split at h
  · cases h
  · rename_i h1
    exact ⟨by omega, by omega, by omega, by omega, h⟩
theorem dls_le : ∀ (L : List Mk) (s a a' : Int), 0 ≤ s → 0 ≤ a → a ≤ a' + 1 → vfrom s a' L = true → ∀ x ∈ dls s a L, x ≤ 1099511627776
  | [], _, _, _, _, _, _, _, x, hx => by cases hx
  | p :: r, s, a, a', h0, h1, h2, hv, x, hx => by
    obtain ⟨g1, g2, g3, g4, g5⟩ := vfrom_head hv
    simp only [dls, List.mem_cons] at hx
    rcases hx with rfl | rfl | hx
    · omega
    · omega
    · exact dls_le r p.1 p.2 p.2 (by omega) (by omega) (by omega) g5 x hx
theorem mEnc_le (L : List Mk) (h : validB L = true) : ∀ x ∈ dls 0 0 L, x ≤ 18446744073709551615 := by
  have h1 : L.length ≤ 512 := by
    by_cases hh : L.length ≤ 512
    · exact hh
    · rw [validB_long (by omega)] at h; cases h
  rw [validB_short h1] at h
  intro x hx
  have := dls_le L 0 0 (-1) (by omega) (by omega) (by omega) h x hx
  omega
theorem valid_len {L : List Mk} (h : validB L = true) : L.length ≤ 512 := by
  by_cases hh : L.length ≤ 512
  · exact hh
  · rw [validB_long (by omega)] at h; cases h
theorem valid_from {L : List Mk} (h : validB L = true) : vfrom 0 (-1) L = true := by rw [← validB_short (valid_len h)]; exact h
/-- the marks that numbers add up to, behind those of acc -/
def mkN : List Mk → Int → Int → List Nat → Option (List Mk)
  | acc, s, a, x :: y :: r => if 1099511627776 < x ∨ 1099511627776 < y then none else mkN (acc ++ [(s + x, a + y)]) (s + x) (a + y) r
  | acc, _, _, _ => some acc
theorem mkN_cons (acc : List Mk) (s a : Int) (x y : Nat) (r : List Nat) : mkN acc s a (x :: y :: r) = if 1099511627776 < x ∨ 1099511627776 < y then none else mkN (acc ++ [(s + x, a + y)]) (s + x) (a + y) r := rfl
def mDec (l : List Nat) : List Mk × Nat :=
  if (decAll l 1024).2.2 ≠ 0 then ([], (decAll l 1024).2.2) else if (decAll l 1024).2.1 ≠ l.length ∨ (decAll l 1024).1.length % 2 = 1 then ([], 70) else
    match mkN [] 0 0 (decAll l 1024).1 with
    | none => ([], 70)
    | some L => if validB L = true then (L, 0) else ([], 70)
/-- a block of another type is not touched by an append -/
theorem grown_box {w w' : World} {base n size k T : Nat} {e : TypeId} {v : Value} {xs : List Value} {c : Array Value} {m : Nat × Nat} (ho : w.ownsRow base e size v n xs) (hg : w.grownBy w' v.ownBlock) (hk : w.heap[k]? = some (.cells c T m)) (hT : T ≠ e) : w'.heap[k]? = some (.cells c T m) := by
  rw [hg.block k (lt_of_heap hk) (fun h => ?_)]
  · exact hk
  · rcases ho.2 with ⟨rfl, _⟩ | ⟨g, cap, cur, rfl, _, hh, _⟩
    · simp [Value.ownBlock] at h
    · have : k = g := by simpa [Value.ownBlock] using h
      subst this
      rw [hk] at hh
      cases hh
      exact hT rfl
/-- nor by a store into that block -/
theorem own_set {w : World} {base n size k T : Nat} {e : TypeId} {v : Value} {xs : List Value} {c : Array Value} {m : Nat × Nat} (ho : w.ownsRow base e size v n xs) (hk : w.heap[k]? = some (.cells c T m)) (hT : T ≠ e) (j : Nat) (u : Value) : (w.setCell ⟨k, j, none⟩ u).ownsRow base e size v n xs := by
  refine ⟨ho.1, ?_⟩
  rcases ho.2 with h2 | ⟨g, cap, cur, h3, h4, h5, h6⟩
  · exact .inl h2
  · refine .inr ⟨g, cap, cur, h3, h4, (heap_setCell_other w ⟨k, j, none⟩ g u ?_).trans h5, h6⟩
    rintro rfl
    have h7 := hk.symm.trans h5
    cases h7
    exact hT rfl
theorem cell_new2 (w : World) (x y : Value) (e : TypeId) : ∀ j u, [x, y][j]? = some u → (w.alloc (.cells #[x, y] e)).cell? ((⟨w.heap.size, 0, none⟩ : Addr).add j) = some u := by
  intro j u hj
  have hc := cell_of_row (w.alloc (.cells #[x, y] e)) w.heap.size j #[x, y] e (0, 0) (heap_alloc_new w _)
  rw [show (⟨w.heap.size, 0, none⟩ : Addr).add j = ⟨w.heap.size, j, none⟩ from by by_cases h : j = 0 <;> simp [Addr.add, h], hc]
  simpa using hj
theorem one_new2 {k : IntKind} (n m : Int) : ∀ u ∈ [Value.int k n, Value.int k m], u.oneCell' = true := by
  intro u hu
  simp at hu
  rcases hu with rfl | rfl <;> rfl
theorem Own64.snoc2 {w : World} {base : Nat} {v : Value} {l : List Nat} {u x : Nat} (hl : ∀ i, l.getD i 0 < 18446744073709551616) (hu : u < 18446744073709551616) (hx : x < 18446744073709551616) (h : w.ownsRow base 62 1 v (l.length + 2) (B64 l ++ [.int .u64 (u : Int), .int .u64 (x : Int)])) : Own64 w base v (l ++ [u, x]) := by
  refine ⟨fun i => ?_, by rw [List.length_append, B64_append]; exact h⟩
  have h1 := hl i
  rw [List.getD_eq_getElem?_getD] at h1 ⊢
  rw [List.getElem?_append]
  split
  · exact h1
  · match i - l.length with
    | 0 => simpa using hu
    | 1 => simpa using hx
    | n + 2 => simp
theorem ret2 {v : Value} {k : IntKind} {b b' : Int} (h2 : b = b') : Ending.returned (.tuple #[v, .int k b]) = .returned (.tuple #[v, .int k b']) := by rw [h2]
theorem own_nil (w : World) (base : Nat) : Own w base (.slice none 0 0) [] := ⟨by simp, World.ownsRow_nil w base _ 1⟩
end Go.Proofs.YtfnkhpijcbpeoaaDoor
namespace Go.Proofs.YtfnkhpijcbpeoaaDoor
open Go.ChangeShapes Go.WideShapes Go.ChangeAt Go.RowKit
set_option linter.unusedVariables false
/-- placed frames, of which each one's number and place is told by P; V: all their cells -/
structure PlAt (w : World) (a : Option Addr) (P : List Mk) (V : List Value) : Prop where
  len : V.length = P.length * 5
  one : ∀ u ∈ V, u.oneCell' = true
  lie : P = [] ∨ ∃ b off, a = some ⟨b, off, none⟩ ∧ b < w.heap.size ∧ ∀ j, j < P.length * 5 → w.cell? ⟨b, off + j, none⟩ = V[j]?
  fld : ∀ i p, P[i]? = some p → V[i * 5]? = some (.int .i64 p.2) ∧ V[i * 5 + 3]? = some (.int .i64 p.1)
theorem PlAt.keep {w w' : World} {a : Option Addr} {P : List Mk} {V : List Value} (h : PlAt w a P V) (hb : Below w.heap.size w w') : PlAt w' a P V := by
  refine ⟨h.len, h.one, ?_, h.fld⟩
  rcases h.lie with h1 | ⟨b, off, h1, h2, h3⟩
  · exact .inl h1
  · exact .inr ⟨b, off, h1, Nat.lt_of_lt_of_le h2 hb.size, fun j hj => (hb.cell (p := ⟨b, off + j, none⟩) h2).trans (h3 j hj)⟩
theorem PlAt.at {w : World} {a : Option Addr} {P : List Mk} {V : List Value} (h : PlAt w a P V) (k : Nat) (p : Mk) (hp : P[k]? = some p) : ∃ b off, a = some ⟨b, off, none⟩ ∧ b < w.heap.size ∧ w.cell? ⟨b, off + k * 5, none⟩ = some (.int .i64 p.2) ∧ w.cell? ⟨b, off + k * 5 + 3, none⟩ = some (.int .i64 p.1) := by
  have hk := lt_of_get hp
  obtain ⟨f0, f1⟩ := h.fld k p hp
  rcases h.lie with rfl | ⟨b, off, h1, h2, h3⟩
  · simp at hk
  · exact ⟨b, off, h1, h2, (h3 (k * 5) (by omega)).trans f0, (h3 (k * 5 + 3) (by omega)).trans f1⟩
/-- every s-th, from the k-th on -/
def bw : Nat → Nat → List Mk → List Mk
  | _, _, [] => []
  | s, 0, p :: r => p :: bw s (s - 1) r
  | s, k + 1, _ :: r => bw s k r
theorem bw_drop (s : Nat) : ∀ (k : Nat) (r : List Mk), bw s k r = bw s 0 (r.drop k)
  | 0, r => rfl
  | k + 1, [] => by simp [bw]
  | k + 1, p :: r => by simp only [List.drop_succ_cons]; exact bw_drop s k r
/-- what Build answers -/
def bldL (stride : Int) (P : List Mk) : List Mk := if stride < 1 then [] else bw stride.toNat 0 P
theorem bw_len (s : Nat) : ∀ (k : Nat) (r : List Mk), (bw s k r).length ≤ r.length
  | _, [] => by simp [bw]
  | 0, p :: r => by simp only [bw, List.length_cons]; have := bw_len s (s - 1) r; omega
  | k + 1, p :: r => by simp only [bw, List.length_cons]; have := bw_len s k r; omega
theorem bldL_len (stride : Int) (P : List Mk) : (bldL stride P).length ≤ P.length := by
  unfold bldL
  split
  · simp
  · exact bw_len _ 0 P
set_option maxRecDepth 20000 in
set_option maxHeartbeats 4000000 in
theorem build_any (P : List Mk) (V : List Value) (n : Nat) (a : Option Addr) (cap : Nat) (stride : Int) (w : World) (hn : P.length = n) (hm : PlAt w a P V) (hl : n * 56 ≤ 140737488351232) (hs0 : -9223372036854775808 ≤ stride) (hs1 : stride ≤ 9223372036854775807) :
    Calls Tryd.prog 26 #[.slice a n cap, .int .i64 stride] w fun e w' => ∃ v, e = .returned v ∧ OwnM w' w.heap.size v (bldL stride P) ∧ Below w.heap.size w w' := by
  by_cases hst : stride < 1
  · have HR : Hid (bldL stride P = []) := by show _ = _; unfold bldL; rw [if_pos hst]
    clear hm hn
    go_enter Tryd.func26, Tryd.ntmps26
    go_wp2
    go_ret
    rw [HR.out]
    exact ⟨_, rfl, OwnM.nil _ _, Below.refl _ _⟩
  · obtain ⟨i0, hi, hz0, hz1, hz2⟩ := info_parts Tryd.infoMk
    have HM : Hid (PlAt w a P V) := hm
    have HN : Hid (P.length = n) := hn
    obtain ⟨s, hss⟩ : ∃ s : Nat, stride = (s : Int) := ⟨stride.toNat, by omega⟩
    subst hss
    have HR : Hid (bldL (s : Int) P = bw s 0 (P.drop 0)) := by show _ = _; unfold bldL; rw [if_neg hst, Int.toNat_natCast]; rfl
    have hnI : (n : Int) ≤ 2513169434843 := by omega
    have hsI : 1 ≤ (s : Int) := by omega
    clear hm hn hst
    go_enter Tryd.func26, Tryd.ntmps26
    go_wp2
    go_loopw [5, 6] (fun vms vi wr => ∃ (v0 : Value) (i k : Nat) (acc : List Mk), v0 = vms ∧ vi = .int .i64 i ∧ (i = 0 ∨ s ≤ i ∧ i < n + s) ∧ OwnM wr w.heap.size v0 acc ∧ acc.length = k ∧ k ≤ i ∧ acc ++ bw s 0 (P.drop i) = bldL (s : Int) P ∧ Below w.heap.size w wr) (fun _ vi _ => n - (intOf vi).toNat)
    case atStart => exact ⟨_, 0, 0, [], rfl, rfl, .inl rfl, OwnM.nil _ _, rfl, Nat.le_refl _, HR.out.symm, Below.refl _ _⟩
    case round =>
      obtain ⟨v0, i, k, acc, rfl, rfl, hi0, hO, hacc, hki, hbl, hbe⟩ := hrel
      have HBL : Hid (acc ++ bw s 0 (P.drop i) = bldL (s : Int) P) := hbl
      have HO : Hid (OwnM wr w.heap.size v0 acc) := hO
      have HACC : Hid (acc.length = k) := hacc
      have hbs := hbe.size
      clear hbl hO hacc
      by_cases hin : i < n
      · obtain ⟨⟨x, z⟩, hp⟩ := get_of_lt (L := P) (k := i) (by rw [HN.out]; exact hin)
        obtain ⟨b, off, rfl, hlt, c0, c1⟩ := HM.out.at i (x, z) hp
        rw [← hbe.cell (p := ⟨b, off + i * 5, none⟩) hlt] at c0
        rw [← hbe.cell (p := ⟨b, off + i * 5 + 3, none⟩) hlt] at c1
        simp only at c0 c1
        have HNX : Hid ((acc ++ [(x, z)]) ++ bw s 0 (P.drop (i + s)) = bldL (s : Int) P) := by
          show _ = _
          rw [← HBL.out, drop_get P i _ hp]
          simp only [bw, List.append_assoc, List.singleton_append]
          rw [bw_drop s (s - 1), List.drop_drop, show i + 1 + (s - 1) = i + s from by omega]
        have HO5 : Hid ((wr.drew.alloc (.cells #[.int .i64 x, .int .i64 z] 68)).ownsRow w.heap.size 68 2 v0 k (mfl acc)) := by have h := World.ownsRow.alloc (World.ownsRow.drew HO.out) (.cells #[.int .i64 x, .int .i64 z] 68); rw [HACC.out] at h; exact h
        have HB5 : Hid (Below w.heap.size w (wr.drew.alloc (.cells #[.int .i64 x, .int .i64 z] 68))) := hbe.drew.alloc hbs _
        have HNW := cell_new2 wr.drew (.int .i64 x) (.int .i64 z) 68
        have hH : (wr.drew.alloc (.cells #[.int .i64 x, .int .i64 z] 68)).heap.size = wr.heap.size + 1 := by simp
        have hiI : (i : Int) < (n : Int) := by omega
        have hisI : (i : Int) + (s : Int) ≤ 9223372036854775807 := by omega
        clear hp
        go_wp2
        go_region_law ((refine step_append_lies _ (by rfl) _ _ 30 (by rfl) w.heap.size 68 i0 _ 2 16 Tryd.underlying30 hi hz0 hz1 hz2 rfl (by decide) v0 k (mfl acc) (by rfl) HO5.out ⟨wr.heap.size, 0, none⟩ 1 1 [.int .i64 x, .int .i64 z] (by rfl) (by rfl) HNW (one_new2 _ _) (by omega) (by unfold maxLen; omega) (by omega) (by simp; omega) (wr.heap.size + 1) hH ?_; intro g4 cap4 w4 ho4 hg4 hat4 hlt4; have hb4 := grown_row HB5.out HO5.out (by simp; omega) hg4; have HO4 : Hid (OwnM w4 w.heap.size (.slice (some ⟨g4, 0, none⟩) (k + 1) cap4) (acc ++ [(x, z)])) := OwnM.snoc HACC.out ho4; clear ho4 hg4 hat4 hlt4))
        all_goals go_wp2
        all_goals exact ⟨⟨_, i + s, k + 1, acc ++ [(x, z)], rfl, by go_num, .inr ⟨by omega, by omega⟩, HO4.out, by rw [List.length_append, HACC.out]; rfl, by omega, HNX.out, hb4⟩, by simp [intOf]; omega⟩
      · have HF : Hid (acc = bldL (s : Int) P) := by
          show acc = _
          rw [← HBL.out, List.drop_eq_nil_of_le (by rw [HN.out]; omega)]
          simp [bw]
        go_wp2
        go_ret
        rw [← HF.out]
        exact ⟨_, rfl, HO.out, hbe⟩
set_option maxRecDepth 20000 in
set_option maxHeartbeats 4000000 in
theorem rbuild_any (P : List Mk) (V : List Value) (n : Nat) (a : Option Addr) (cap : Nat) (stride : Int) (w : World) (hn : P.length = n) (hm : PlAt w a P V) (hl : n * 56 ≤ 140737488351232) (hs0 : -9223372036854775808 ≤ stride) (hs1 : stride ≤ 9223372036854775807) :
    Calls Tryd.prog 36 #[.slice a n cap, .int .i64 stride] w fun e w' => ∃ v, e = .returned v ∧ OwnM w' w.heap.size v (bldL stride P) ∧ Below w.heap.size w w' := by
  obtain ⟨i0, hi, hz0, hz1, hz2⟩ := info_parts Tryd.infoMk
  have HM : Hid (PlAt w a P V) := hm
  have HN : Hid (P.length = n) := hn
  have hnI : (n : Int) ≤ 2513169434843 := by omega
  clear hm hn
  by_cases hst : stride < 1
  · have HR : Hid (bldL stride P = []) := by show _ = _; unfold bldL; rw [if_pos hst]
    have hg : decide (1 ≤ stride) = false := by simp; omega
    go_enter Tryd.func36, Tryd.ntmps36
    go_wp2
    go_loopw [5, 6, 11] (fun vms vw vi wr => ∃ (v0 : Value) (k : Nat), v0 = vms ∧ k ≤ n ∧ vw = .int .i64 (-(k : Int)) ∧ vi = .int .i64 k ∧ OwnM wr w.heap.size v0 [] ∧ Below w.heap.size w wr) (fun _ _ vi _ => n - (intOf vi).toNat)
    case atStart => exact ⟨_, 0, rfl, Nat.zero_le _, rfl, rfl, OwnM.lit w, (Below.refl _ _).alloc (Nat.le_refl _) _⟩
    case round =>
      obtain ⟨v0, k, rfl, hk, rfl, rfl, hO, hbe⟩ := hrel
      have HO : Hid (OwnM wr w.heap.size v0 []) := hO
      clear hO
      by_cases hin : k < n
      · go_wp2
        go_roundw
        case rel => exact ⟨_, k + 1, rfl, by omega, by congr 1; omega, by go_num, HO.out, hbe⟩
        case measure => simp [intOf]; omega
      · go_wp2
        go_ret
        rw [HR.out]
        exact ⟨_, rfl, HO.out, hbe⟩
  · obtain ⟨s, hss⟩ : ∃ s : Nat, stride = (s : Int) := ⟨stride.toNat, by omega⟩
    subst hss
    have HR : Hid (bldL (s : Int) P = bw s 0 (P.drop 0)) := by show _ = _; unfold bldL; rw [if_neg hst, Int.toNat_natCast]; rfl
    have hsI : 1 ≤ (s : Int) := by omega
    have hg : decide (1 ≤ (s : Int)) = true := by simp; omega
    clear hst
    go_enter Tryd.func36, Tryd.ntmps36
    go_wp2
    go_loopw [5, 6, 11] (fun vms vw vi wr => ∃ (v0 : Value) (i k wt : Nat) (acc : List Mk), v0 = vms ∧ vw = .int .i64 wt ∧ vi = .int .i64 i ∧ wt ≤ s ∧ i ≤ n ∧ OwnM wr w.heap.size v0 acc ∧ acc.length = k ∧ k ≤ i ∧ acc ++ bw s wt (P.drop i) = bldL (s : Int) P ∧ Below w.heap.size w wr) (fun _ _ vi _ => n - (intOf vi).toNat)
    case atStart => exact ⟨_, 0, 0, 0, [], rfl, rfl, rfl, Nat.zero_le _, Nat.zero_le _, OwnM.lit w, rfl, Nat.le_refl _, HR.out.symm, (Below.refl _ _).alloc (Nat.le_refl _) _⟩
    case round =>
      obtain ⟨v0, i, k, wt, acc, rfl, rfl, rfl, hwt, hin0, hO, hacc, hki, hbl, hbe⟩ := hrel
      have HBL : Hid (acc ++ bw s wt (P.drop i) = bldL (s : Int) P) := hbl
      have HO : Hid (OwnM wr w.heap.size v0 acc) := hO
      have HACC : Hid (acc.length = k) := hacc
      have hbs := hbe.size
      clear hbl hO hacc
      by_cases hin : i < n
      · obtain ⟨⟨x, z⟩, hp⟩ := get_of_lt (L := P) (k := i) (by rw [HN.out]; exact hin)
        cases wt with
        | zero =>
          obtain ⟨b, off, rfl, hlt, c0, c1⟩ := HM.out.at i (x, z) hp
          rw [← hbe.cell (p := ⟨b, off + i * 5, none⟩) hlt] at c0
          rw [← hbe.cell (p := ⟨b, off + i * 5 + 3, none⟩) hlt] at c1
          simp only at c0 c1
          have HNX : Hid ((acc ++ [(x, z)]) ++ bw s (s - 1) (P.drop (i + 1)) = bldL (s : Int) P) := by
            show _ = _
            rw [← HBL.out, drop_get P i _ hp]
            simp only [bw, List.append_assoc, List.singleton_append]
          have HO5 : Hid ((wr.drew.alloc (.cells #[.int .i64 x, .int .i64 z] 68)).ownsRow w.heap.size 68 2 v0 k (mfl acc)) := by have h := World.ownsRow.alloc (World.ownsRow.drew HO.out) (.cells #[.int .i64 x, .int .i64 z] 68); rw [HACC.out] at h; exact h
          have HB5 : Hid (Below w.heap.size w (wr.drew.alloc (.cells #[.int .i64 x, .int .i64 z] 68))) := hbe.drew.alloc hbs _
          have HNW := cell_new2 wr.drew (.int .i64 x) (.int .i64 z) 68
          have hH : (wr.drew.alloc (.cells #[.int .i64 x, .int .i64 z] 68)).heap.size = wr.heap.size + 1 := by simp
          have hiI : (i : Int) < (n : Int) := by omega
          clear hp
          go_wp2
          go_region_law ((refine step_append_lies _ (by rfl) _ _ 30 (by rfl) w.heap.size 68 i0 _ 2 16 Tryd.underlying30 hi hz0 hz1 hz2 rfl (by decide) v0 k (mfl acc) (by rfl) HO5.out ⟨wr.heap.size, 0, none⟩ 1 1 [.int .i64 x, .int .i64 z] (by rfl) (by rfl) HNW (one_new2 _ _) (by omega) (by unfold maxLen; omega) (by omega) (by simp; omega) (wr.heap.size + 1) hH ?_; intro g4 cap4 w4 ho4 hg4 hat4 hlt4; have hb4 := grown_row HB5.out HO5.out (by simp; omega) hg4; have HO4 : Hid (OwnM w4 w.heap.size (.slice (some ⟨g4, 0, none⟩) (k + 1) cap4) (acc ++ [(x, z)])) := OwnM.snoc HACC.out ho4; clear ho4 hg4 hat4 hlt4))
          all_goals go_wp2
          all_goals exact ⟨⟨_, i + 1, k + 1, s - 1, acc ++ [(x, z)], rfl, by congr 1; omega, by go_num, by omega, by omega, HO4.out, by rw [List.length_append, HACC.out]; rfl, by omega, HNX.out, hb4⟩, by simp [intOf]; omega⟩
        | succ wt =>
          have HNX : Hid (acc ++ bw s wt (P.drop (i + 1)) = bldL (s : Int) P) := by
            show _ = _
            rw [← HBL.out, drop_get P i _ hp]
            rfl
          have hw0 : (((wt + 1 : Nat) : Int) == 0) = false := by simp; omega
          have hw1 : ((wt : Int) + 1 == 0) = false := by simp; omega
          clear hp
          go_wp2
          go_roundw
          case rel => exact ⟨_, i + 1, k, wt, acc, rfl, by congr 1, by go_num, by omega, by omega, HO.out, HACC.out, by omega, HNX.out, hbe⟩
          case measure => simp [intOf]; omega
      · have HF : Hid (acc = bldL (s : Int) P) := by
          show acc = _
          rw [← HBL.out, List.drop_eq_nil_of_le (by rw [HN.out]; omega)]
          cases wt <;> simp [bw]
        go_wp2
        go_ret
        rw [← HF.out]
        exact ⟨_, rfl, HO.out, hbe⟩
end Go.Proofs.YtfnkhpijcbpeoaaDoor
