/- Own texts, joined: Mkm, MkB, MkM, MkD. -/
import Derived.Test.YtaegmeilhdbnnabDoorJ08
import Derived.Test.YtaegmeilhdbnnabDoorJ10
import Derived.Test.YtaegmeilhdbnnabDoorJ09
import Derived.Deep.RegionLaw
import Derived.Deep.AppendLies
import Derived.Deep.Onto
namespace Go.Proofs.YtaegmeilhdbnnabDoor
open Go.ChangeShapes Go.WideShapes Go.ChangeAt Go.RowKit
set_option linter.unusedVariables false
/-- what each mark is above the one ahead -/
def dls : Int → Int → List Mk → List Nat
  | _, _, [] => []
  | s, a, p :: r => (p.1 - s).toNat :: (p.2 - a).toNat :: dls p.1 p.2 r
theorem dls_length : ∀ (L : List Mk) (s a : Int), (dls s a L).length = 2 * L.length
  | [], _, _ => rfl
  | p :: r, s, a => by simp only [dls, List.length_cons, dls_length r p.1 p.2]; omega
def mEnc (L : List Mk) : List Nat := encAll (dls 0 0 L)
theorem vfrom_head {s a : Int} {p : Mk} {r : List Mk} (h : vfrom s a (p :: r) = true) : s < p.1 ∧ a < p.2 ∧ p.1 ≤ 1099511627776 ∧ p.2 ≤ 1099511627776 ∧ vfrom p.1 p.2 r = true := by
  rw [vfrom_cons] at h
  split at h
  · cases h
  · rename_i h1
    exact ⟨by omega, by omega, by omega, by omega, h⟩
theorem dls_le : ∀ (L : List Mk) (s a a' : Int), 0 ≤ s → 0 ≤ a → a ≤ a' + 1 → vfrom s a' L = true → ∀ x ∈ dls s a L, x ≤ 1099511627776
  | [], _, _, _, _, _, _, _, x, hx => by cases hx
  | p :: r, s, a, a', h0, h1, h2, hv, x, hx => by
    obtain ⟨g1, g2, g3, g4, g5⟩ := vfrom_head hv
    simp only [dls, List.mem_cons] at hx
    rcases hx with rfl | rfl | hx
    · omega
    · omega
    · exact dls_le r p.1 p.2 p.2 (by omega) (by omega) (by omega) g5 x hx
theorem mEnc_le (L : List Mk) (h : validB L = true) : ∀ x ∈ dls 0 0 L, x ≤ 18446744073709551615 := by
  have h1 : L.length ≤ 512 := by
    by_cases hh : L.length ≤ 512
    · exact hh
    · rw [validB_long (by omega)] at h; cases h
  rw [validB_short h1] at h
  intro x hx
  have := dls_le L 0 0 (-1) (by omega) (by omega) (by omega) h x hx
  omega
theorem valid_len {L : List Mk} (h : validB L = true) : L.length ≤ 512 := by
  by_cases hh : L.length ≤ 512
  · exact hh
  · rw [validB_long (by omega)] at h; cases h
theorem valid_from {L : List Mk} (h : validB L = true) : vfrom 0 (-1) L = true := by rw [← validB_short (valid_len h)]; exact h
/-- the marks that numbers add up to, behind those of acc -/
def mkN : List Mk → Int → Int → List Nat → Option (List Mk)
  | acc, s, a, x :: y :: r => if 1099511627776 < x ∨ 1099511627776 < y then none else mkN (acc ++ [(s + x, a + y)]) (s + x) (a + y) r
  | acc, _, _, _ => some acc
theorem mkN_cons (acc : List Mk) (s a : Int) (x y : Nat) (r : List Nat) : mkN acc s a (x :: y :: r) = if 1099511627776 < x ∨ 1099511627776 < y then none else mkN (acc ++ [(s + x, a + y)]) (s + x) (a + y) r := rfl
def mDec (l : List Nat) : List Mk × Nat :=
  if (decAll l 1024).2.2 ≠ 0 then ([], (decAll l 1024).2.2) else if (decAll l 1024).2.1 ≠ l.length ∨ (decAll l 1024).1.length % 2 = 1 then ([], 70) else
    match mkN [] 0 0 (decAll l 1024).1 with
    | none => ([], 70)
    | some L => if validB L = true then (L, 0) else ([], 70)
/-- a block of another type is not touched by an append -/
theorem grown_box {w w' : World} {base n size k T : Nat} {e : TypeId} {v : Value} {xs : List Value} {c : Array Value} {m : Nat × Nat} (ho : w.ownsRow base e size v n xs) (hg : w.grownBy w' v.ownBlock) (hk : w.heap[k]? = some (.cells c T m)) (hT : T ≠ e) : w'.heap[k]? = some (.cells c T m) := by
  rw [hg.block k (lt_of_heap hk) (fun h => ?_)]
  · exact hk
  · rcases ho.2 with ⟨rfl, _⟩ | ⟨g, cap, cur, rfl, _, hh, _⟩
    · simp [Value.ownBlock] at h
    · have : k = g := by simpa [Value.ownBlock] using h
      subst this
      rw [hk] at hh
      cases hh
      exact hT rfl
/-- nor by a store into that block -/
theorem own_set {w : World} {base n size k T : Nat} {e : TypeId} {v : Value} {xs : List Value} {c : Array Value} {m : Nat × Nat} (ho : w.ownsRow base e size v n xs) (hk : w.heap[k]? = some (.cells c T m)) (hT : T ≠ e) (j : Nat) (u : Value) : (w.setCell ⟨k, j, none⟩ u).ownsRow base e size v n xs := by
  refine ⟨ho.1, ?_⟩
  rcases ho.2 with h2 | ⟨g, cap, cur, h3, h4, h5, h6⟩
  · exact .inl h2
  · refine .inr ⟨g, cap, cur, h3, h4, (heap_setCell_other w ⟨k, j, none⟩ g u ?_).trans h5, h6⟩
    rintro rfl
    have h7 := hk.symm.trans h5
    cases h7
    exact hT rfl
theorem cell_new2 (w : World) (x y : Value) (e : TypeId) : ∀ j u, [x, y][j]? = some u → (w.alloc (.cells #[x, y] e)).cell? ((⟨w.heap.size, 0, none⟩ : Addr).add j) = some u := by
  intro j u hj
  have hc := cell_of_row (w.alloc (.cells #[x, y] e)) w.heap.size j #[x, y] e (0, 0) (heap_alloc_new w _)
  rw [show (⟨w.heap.size, 0, none⟩ : Addr).add j = ⟨w.heap.size, j, none⟩ from by by_cases h : j = 0 <;> simp [Addr.add, h], hc]
  simpa using hj
theorem one_new2 {k : IntKind} (n m : Int) : ∀ u ∈ [Value.int k n, Value.int k m], u.oneCell' = true := by
  intro u hu
  simp at hu
  rcases hu with rfl | rfl <;> rfl
theorem Own64.snoc2 {w : World} {base : Nat} {v : Value} {l : List Nat} {u x : Nat} (hl : ∀ i, l.getD i 0 < 18446744073709551616) (hu : u < 18446744073709551616) (hx : x < 18446744073709551616) (h : w.ownsRow base 69 1 v (l.length + 2) (B64 l ++ [.int .u64 (u : Int), .int .u64 (x : Int)])) : Own64 w base v (l ++ [u, x]) := by
  refine ⟨fun i => ?_, by rw [List.length_append, B64_append]; exact h⟩
  have h1 := hl i
  rw [List.getD_eq_getElem?_getD] at h1 ⊢
  rw [List.getElem?_append]
  split
  · exact h1
  · match i - l.length with
    | 0 => simpa using hu
    | 1 => simpa using hx
    | n + 2 => simp
theorem ret2 {v : Value} {k : IntKind} {b b' : Int} (h2 : b = b') : Ending.returned (.tuple #[v, .int k b]) = .returned (.tuple #[v, .int k b']) := by rw [h2]
theorem own_nil (w : World) (base : Nat) : Own w base (.slice none 0 0) [] := ⟨by simp, World.ownsRow_nil w base _ 1⟩
end Go.Proofs.YtaegmeilhdbnnabDoor
namespace Go.Proofs.YtaegmeilhdbnnabDoor
open Go.ChangeShapes Go.WideShapes Go.ChangeAt Go.RowKit
set_option linter.unusedVariables false
/-- placed frames, of which each one's number and place is told by P; V: all their cells -/
structure PlAt (w : World) (a : Option Addr) (P : List Mk) (V : List Value) : Prop where
  len : V.length = P.length * 5
  one : ∀ u ∈ V, u.oneCell' = true
  lie : P = [] ∨ ∃ b off, a = some ⟨b, off, none⟩ ∧ b < w.heap.size ∧ ∀ j, j < P.length * 5 → w.cell? ⟨b, off + j, none⟩ = V[j]?
  fld : ∀ i p, P[i]? = some p → V[i * 5]? = some (.int .i64 p.2) ∧ V[i * 5 + 3]? = some (.int .i64 p.1)
theorem PlAt.keep {w w' : World} {a : Option Addr} {P : List Mk} {V : List Value} (h : PlAt w a P V) (hb : Below w.heap.size w w') : PlAt w' a P V := by
  refine ⟨h.len, h.one, ?_, h.fld⟩
  rcases h.lie with h1 | ⟨b, off, h1, h2, h3⟩
  · exact .inl h1
  · exact .inr ⟨b, off, h1, Nat.lt_of_lt_of_le h2 hb.size, fun j hj => (hb.cell (p := ⟨b, off + j, none⟩) h2).trans (h3 j hj)⟩
theorem PlAt.at {w : World} {a : Option Addr} {P : List Mk} {V : List Value} (h : PlAt w a P V) (k : Nat) (p : Mk) (hp : P[k]? = some p) : ∃ b off, a = some ⟨b, off, none⟩ ∧ b < w.heap.size ∧ w.cell? ⟨b, off + k * 5, none⟩ = some (.int .i64 p.2) ∧ w.cell? ⟨b, off + k * 5 + 3, none⟩ = some (.int .i64 p.1) := by
  have hk := lt_of_get hp
  obtain ⟨f0, f1⟩ := h.fld k p hp
  rcases h.lie with rfl | ⟨b, off, h1, h2, h3⟩
  · simp at hk
  · exact ⟨b, off, h1, h2, (h3 (k * 5) (by omega)).trans f0, (h3 (k * 5 + 3) (by omega)).trans f1⟩
/-- every s-th, from the k-th on -/
def bw : Nat → Nat → List Mk → List Mk
  | _, _, [] => []
  | s, 0, p :: r => p :: bw s (s - 1) r
  | s, k + 1, _ :: r => bw s k r
theorem bw_drop (s : Nat) : ∀ (k : Nat) (r : List Mk), bw s k r = bw s 0 (r.drop k)
  | 0, r => rfl
  | k + 1, [] => by simp [bw]
  | k + 1, p :: r => by simp only [List.drop_succ_cons]; exact bw_drop s k r
/-- what Build answers -/
def bldL (stride : Int) (P : List Mk) : List Mk := if stride < 1 then [] else bw stride.toNat 0 P
theorem bw_len (s : Nat) : ∀ (k : Nat) (r : List Mk), (bw s k r).length ≤ r.length
  | _, [] => by simp [bw]
  | 0, p :: r => by simp only [bw, List.length_cons]; have := bw_len s (s - 1) r; omega
  | k + 1, p :: r => by simp only [bw, List.length_cons]; have := bw_len s k r; omega
theorem bldL_len (stride : Int) (P : List Mk) : (bldL stride P).length ≤ P.length := by
  unfold bldL
  split
  · simp
  · exact bw_len _ 0 P
set_option maxRecDepth 20000 in
set_option maxHeartbeats 4000000 in
theorem build_any (P : List Mk) (V : List Value) (n : Nat) (a : Option Addr) (cap : Nat) (stride : Int) (w : World) (hn : P.length = n) (hm : PlAt w a P V) (hl : n * 56 ≤ 140737488351232) (hs0 : -9223372036854775808 ≤ stride) (hs1 : stride ≤ 9223372036854775807) :
    Calls Tryd.prog 21 #[.slice a n cap, .int .i64 stride] w fun e w' => ∃ v, e = .returned v ∧ OwnM w' w.heap.size v (bldL stride P) ∧ Below w.heap.size w w' := by
  by_cases hst : stride < 1
  · have HR : Hid (bldL stride P = []) := by show _ = _; unfold bldL; rw [if_pos hst]
    clear hm hn
    go_enter Tryd.func21, Tryd.ntmps21
    go_wp2
    go_ret
    rw [HR.out]
    exact ⟨_, rfl, OwnM.nil _ _, Below.refl _ _⟩
  · obtain ⟨i0, hi, hz0, hz1, hz2⟩ := info_parts Tryd.infoMk
    have HM : Hid (PlAt w a P V) := hm
    have HN : Hid (P.length = n) := hn
    obtain ⟨s, hss⟩ : ∃ s : Nat, stride = (s : Int) := ⟨stride.toNat, by omega⟩
    subst hss
    have HR : Hid (bldL (s : Int) P = bw s 0 (P.drop 0)) := by show _ = _; unfold bldL; rw [if_neg hst, Int.toNat_natCast]; rfl
    have hnI : (n : Int) ≤ 2513169434843 := by omega
    have hsI : 1 ≤ (s : Int) := by omega
    clear hm hn hst
    go_enter Tryd.func21, Tryd.ntmps21
    go_wp2
    go_loopw [5, 6] (fun vms vi wr => ∃ (v0 : Value) (i k : Nat) (acc : List Mk), v0 = vms ∧ vi = .int .i64 i ∧ (i = 0 ∨ s ≤ i ∧ i < n + s) ∧ OwnM wr w.heap.size v0 acc ∧ acc.length = k ∧ k ≤ i ∧ acc ++ bw s 0 (P.drop i) = bldL (s : Int) P ∧ Below w.heap.size w wr) (fun _ vi _ => n - (intOf vi).toNat)
    case atStart => exact ⟨_, 0, 0, [], rfl, rfl, .inl rfl, OwnM.nil _ _, rfl, Nat.le_refl _, HR.out.symm, Below.refl _ _⟩
    case round =>
      obtain ⟨v0, i, k, acc, rfl, rfl, hi0, hO, hacc, hki, hbl, hbe⟩ := hrel
      have HBL : Hid (acc ++ bw s 0 (P.drop i) = bldL (s : Int) P) := hbl
      have HO : Hid (OwnM wr w.heap.size v0 acc) := hO
      have HACC : Hid (acc.length = k) := hacc
      have hbs := hbe.size
      clear hbl hO hacc
      by_cases hin : i < n
      · obtain ⟨⟨x, z⟩, hp⟩ := get_of_lt (L := P) (k := i) (by rw [HN.out]; exact hin)
        obtain ⟨b, off, rfl, hlt, c0, c1⟩ := HM.out.at i (x, z) hp
        rw [← hbe.cell (p := ⟨b, off + i * 5, none⟩) hlt] at c0
        rw [← hbe.cell (p := ⟨b, off + i * 5 + 3, none⟩) hlt] at c1
        simp only at c0 c1
        have HNX : Hid ((acc ++ [(x, z)]) ++ bw s 0 (P.drop (i + s)) = bldL (s : Int) P) := by
          show _ = _
          rw [← HBL.out, drop_get P i _ hp]
          simp only [bw, List.append_assoc, List.singleton_append]
          rw [bw_drop s (s - 1), List.drop_drop, show i + 1 + (s - 1) = i + s from by omega]
        have HO5 : Hid ((wr.drew.alloc (.cells #[.int .i64 x, .int .i64 z] 76)).ownsRow w.heap.size 76 2 v0 k (mfl acc)) := by have h := World.ownsRow.alloc (World.ownsRow.drew HO.out) (.cells #[.int .i64 x, .int .i64 z] 76); rw [HACC.out] at h; exact h
        have HB5 : Hid (Below w.heap.size w (wr.drew.alloc (.cells #[.int .i64 x, .int .i64 z] 76))) := hbe.drew.alloc hbs _
        have HNW := cell_new2 wr.drew (.int .i64 x) (.int .i64 z) 76
        have hH : (wr.drew.alloc (.cells #[.int .i64 x, .int .i64 z] 76)).heap.size = wr.heap.size + 1 := by simp
        have hiI : (i : Int) < (n : Int) := by omega
        have hisI : (i : Int) + (s : Int) ≤ 9223372036854775807 := by omega
        clear hp
        go_wp2
        go_region_law ((refine step_append_lies _ (by rfl) _ _ 37 (by rfl) w.heap.size 76 i0 _ 2 16 Tryd.underlying37 hi hz0 hz1 hz2 rfl (by decide) v0 k (mfl acc) (by rfl) HO5.out ⟨wr.heap.size, 0, none⟩ 1 1 [.int .i64 x, .int .i64 z] (by rfl) (by rfl) HNW (one_new2 _ _) (by omega) (by unfold maxLen; omega) (by omega) (by simp; omega) (wr.heap.size + 1) hH ?_; intro g4 cap4 w4 ho4 hg4 hat4 hlt4; have hb4 := grown_row HB5.out HO5.out (by simp; omega) hg4; have HO4 : Hid (OwnM w4 w.heap.size (.slice (some ⟨g4, 0, none⟩) (k + 1) cap4) (acc ++ [(x, z)])) := OwnM.snoc HACC.out ho4; clear ho4 hg4 hat4 hlt4))
        all_goals go_wp2
        all_goals exact ⟨⟨_, i + s, k + 1, acc ++ [(x, z)], rfl, by go_num, .inr ⟨by omega, by omega⟩, HO4.out, by rw [List.length_append, HACC.out]; rfl, by omega, HNX.out, hb4⟩, by simp [intOf]; omega⟩
      · have HF : Hid (acc = bldL (s : Int) P) := by
          show acc = _
          rw [← HBL.out, List.drop_eq_nil_of_le (by rw [HN.out]; omega)]
          simp [bw]
        go_wp2
        go_ret
        rw [← HF.out]
        exact ⟨_, rfl, HO.out, hbe⟩
end Go.Proofs.YtaegmeilhdbnnabDoor
namespace Go.Proofs.YtaegmeilhdbnnabDoor
open Go.ChangeShapes Go.WideShapes Go.ChangeAt Go.RowKit
set_option linter.unusedVariables false
def mksR (U : List Nat) : List Mk × Bool :=
  if U.length % 2 = 1 then ([], false) else match mkN [] 0 0 U with
    | none => ([], false)
    | some M => (M, true)
theorem mk_drewN {w : World} {k : Nat} {s y : Int} (h : MkAt w k s y) (n : Nat) : MkAt (w.drewN n) k s y := by
  unfold MkAt at *; simpa using h
theorem row_drewN {w : World} {base n size : Nat} {e : TypeId} {v : Value} {xs : List Value} (h : w.ownsRow base e size v n xs) (m : Nat) : (w.drewN m).ownsRow base e size v n xs := by
  induction m with
  | zero => exact h
  | succ m ih => exact World.ownsRow.drew ih
theorem own_at {w : World} {base n size g cap k : Nat} {e : TypeId} {xs : List Value} (h : w.ownsRow base e size (.slice (some ⟨g, 0, none⟩) n cap) n xs) (hk : g ≠ k) (j : Nat) (u : Value) : (w.setCell ⟨k, j, none⟩ u).ownsRow base e size (.slice (some ⟨g, 0, none⟩) n cap) n xs := by
  refine ⟨h.1, ?_⟩
  rcases h.2 with ⟨h2, _⟩ | ⟨g', cap', cur, h3, h4, h5, h6⟩
  · cases h2
  · cases h3
    exact .inr ⟨g, cap, cur, rfl, h4, (heap_setCell_other w ⟨k, j, none⟩ g u hk).trans h5, h6⟩
theorem drop_two (U : List Nat) (j x y : Nat) (h1 : U[j]? = some x) (h2 : U[j + 1]? = some y) : U.drop j = x :: y :: U.drop (j + 2) := by
  rw [drop_get U j x h1, drop_get U (j + 1) y h2]
theorem one_mk (x z : Int) : ∀ u ∈ [Value.int .i64 x, Value.int .i64 z], u.oneCell' = true := one_new2 x z
theorem retb {v : Value} {b b' : Bool} (h2 : b = b') : Ending.returned (.tuple #[v, .bool b]) = .returned (.tuple #[v, .bool b']) := by rw [h2]
end Go.Proofs.YtaegmeilhdbnnabDoor
namespace Go.Proofs.YtaegmeilhdbnnabDoor
open Go.ChangeShapes Go.WideShapes Go.ChangeAt Go.RowKit
set_option linter.unusedVariables false
theorem decN_len : ∀ (c : Nat) (l : List Nat) (p : Nat) (acc : List Nat), (vdecN c l p acc).2.2 = 0 → (vdecN c l p acc).1.length = acc.length + c
  | 0, l, p, acc, h => rfl
  | c + 1, l, p, acc, h => by
    obtain ⟨u, k, e, hd⟩ : ∃ u k e, dec 0 0 (l.drop p) = (u, k, e) := ⟨_, _, _, rfl⟩
    rw [decN_succ c l p acc u k e hd] at h ⊢
    by_cases he : e = 0
    · rw [if_pos he] at h ⊢
      rw [decN_len c l (p + k) (acc ++ [u]) h, List.length_append]
      simp only [List.length_cons, List.length_nil]
      omega
    · rw [if_neg he] at h
      exact absurd h he
theorem decAll_len {l U : List Nat} {p : Nat} (h : decAll l 1024 = (U, p, 0)) : U.length ≤ 1024 := by
  unfold decAll at h
  split at h
  · rename_i h1
    have h2 := congrArg (fun x => x.2.2) h
    exact absurd h2 h1
  · split at h
    · cases h
    · rename_i h1 h2
      have h3 := decN_len (dec 0 0 l).1 l (dec 0 0 l).2.1 [] (by rw [h])
      rw [h] at h3
      simp only [List.length_nil] at h3
      have : (1024 : Int).toNat = 1024 := rfl
      omega
theorem mDec_bad {l U : List Nat} {p e : Nat} (h : decAll l 1024 = (U, p, e)) (he : e ≠ 0) : mDec l = ([], e) := by
  unfold mDec
  rw [h]
  simp only
  rw [if_pos he]
theorem mDec_eq {l U : List Nat} {p : Nat} (h : decAll l 1024 = (U, p, 0)) : mDec l = if p ≠ l.length ∨ (mksR U).2 = false ∨ validB (mksR U).1 = false then ([], 70) else ((mksR U).1, 0) := by
  unfold mDec mksR
  rw [h]
  simp only
  rw [if_neg (by simp)]
  by_cases h1 : p ≠ l.length
  · rw [if_pos (.inl h1), if_pos (.inl h1)]
  · by_cases h2 : U.length % 2 = 1
    · rw [if_pos (.inr h2), if_pos h2]
      simp
    · have h3 : ¬ (p ≠ l.length ∨ U.length % 2 = 1) := fun h => h.elim h1 h2
      rw [if_neg h3, if_neg h2]
      have h4 : p = l.length := by simpa using h1
      cases mkN [] 0 0 U with
      | none => simp
      | some M => by_cases hv : validB M = true <;> simp [hv, h4]
theorem nums_of {w : World} {base : Nat} {v : Value} {U : List Nat} (h : Own64 w base v U) (n : Nat) (hn : U.length = n) : ∃ a c, v = .slice a n c ∧ Nums w a U := by
  obtain ⟨a, c, h1, h2⟩ := h.slice
  exact ⟨a, c, by rw [h1, hn], h2⟩
theorem marks_of {w : World} {base : Nat} {v : Value} {L : List Mk} (h : OwnM w base v L) (n : Nat) (hn : L.length = n) : ∃ a c, v = .slice a n c ∧ Marks w a L ∧ n ≤ maxLen := by
  obtain ⟨a, c, h1, h2, h3, h4, _⟩ := h.shape
  exact ⟨a, c, by rw [h1, hn], h4, by omega⟩
end Go.Proofs.YtaegmeilhdbnnabDoor
