/- Own texts, joined: Rpt. -/
import Derived.Test.YtlnhhgmdajbepaaK22
import Derived.Test.YtlnhhgmdajbepaaK18
import Derived.Sort.Walk0
namespace Go.Proofs.Ytlnhhgmdajbepaa
open Go.ChangeShapes Go.WideShapes Go.ChangeAt Go.RowKit
set_option linter.unusedVariables false
set_option linter.unusedSimpArgs false
/-- a row of files in blocks of one's own -/
def RowL (base : Nat) (w : World) (a : Option Addr) (Y : List (Fa × Value)) : Prop := Y = [] ∨ ∃ g, a = some ⟨g, 0, none⟩ ∧ base ≤ g ∧ g < w.heap.size ∧ ∀ j, j < Y.length * 3 → w.cell? ⟨g, j, none⟩ = (imfl Y)[j]?
theorem RowL.turn {base : Nat} {w y : World} {a : Option Addr} {Y : List (Fa × Value)} (h : RowL base w a Y) (ht : ∀ k, base ≤ k → k < w.heap.size → y.heap[k]? = w.heap[k]?) : RowL base y a Y := by
  rcases h with h | ⟨g, h1, h2, h3, h4⟩
  · exact .inl h
  · have hb := ht g h2 h3
    refine .inr ⟨g, h1, h2, ?_, fun j hj => ?_⟩
    · have h9 : w.heap[g]? = some w.heap[g] := Array.getElem?_eq_getElem h3
      rw [h9] at hb
      exact lt_of_heap hb
    · rw [cell_heapS hb]; exact h4 j hj
theorem RowL.mono {b2 base : Nat} {w : World} {a : Option Addr} {Y : List (Fa × Value)} (h : RowL base w a Y) (hb : b2 ≤ base) : RowL b2 w a Y := by
  rcases h with h | ⟨g, h1, h2, h3⟩
  · exact .inl h
  · exact .inr ⟨g, h1, Nat.le_trans hb h2, h3⟩
theorem RowL.fls {base : Nat} {w : World} {a : Option Addr} {Y : List (Fa × Value)} (h : RowL base w a Y) (hv : ∀ e ∈ Y, FvIn w e) : FlsA w a Y := by
  refine ⟨?_, hv⟩
  rcases h with h | ⟨g, h1, h2, h3, h4⟩
  · exact .inl h
  · exact .inr ⟨g, 0, h1, h3, fun j hj => by rw [Nat.zero_add]; exact h4 j hj⟩
/-- a row of files that grows; each of its files is one of M -/
structure RowF (w wr : World) (M : Fa × Value → Prop) (v : Value) (j : Nat) (Y : List (Fa × Value)) : Prop where
  row : wr.ownsRow w.heap.size 49 3 v j (imfl Y)
  len : Y.length = j
  mem : ∀ p ∈ Y, M p
  low : Below w.heap.size w wr
theorem RowF.keep {w wr x : World} {M : Fa × Value → Prop} {v : Value} {j : Nat} {Y : List (Fa × Value)} (h : RowF w wr M v j Y) (hb : Below wr.heap.size wr x) : RowF w x M v j Y := ⟨ownRow_keep h.row hb, h.len, h.mem, h.low.trans (hb.mono h.low.size)⟩
theorem RowF.push {w x5 x6 : World} {M : Fa × Value → Prop} {v v6 : Value} {j : Nat} {Y : List (Fa × Value)} (h : RowF w x5 M v j Y) (p : Fa × Value) (hp : M p) (hr : x6.ownsRow w.heap.size 49 3 v6 (j + 1) (imfl Y ++ [.string (bs p.1.name), p.2, .int .i64 (p.1.s : Int)])) (hg : x5.grownBy x6 v.ownBlock) : RowF w x6 M v6 (j + 1) (Y ++ [p]) := by
  refine ⟨?_, by rw [List.length_append, h.len]; rfl, fun q hq => ?_, h.low.grown hg h.low.size (fun k hk => (h.row.lt k hk).1)⟩
  · rw [imfl_app]
    exact hr
  · rcases List.mem_append.1 hq with h1 | h1
    · exact h.mem q h1
    · rw [List.mem_singleton.1 h1]; exact hp
theorem RowF.rowl {w wr : World} {M : Fa × Value → Prop} {a : Option Addr} {j c : Nat} {Y : List (Fa × Value)} (h : RowF w wr M (.slice a j c) j Y) : RowL w.heap.size wr a Y := by
  rcases h.row.2 with ⟨h1, h2⟩ | ⟨g, cap, cur, h1, h3, h4, h5⟩
  · exact .inl (List.length_eq_zero_iff.1 (h.len.trans h2))
  · injection h1 with e1 e2 e3
    refine .inr ⟨g, e1, h3, lt_of_heap h4, fun i hi => ?_⟩
    have h' := h.row
    rw [e1] at h'
    exact h'.cellAt i (by rw [← h.len]; exact hi)
theorem RowF.start (w w0 : World) (M : Fa × Value → Prop) (hb : Below w.heap.size w w0) : RowF w (w0.alloc (.cells #[] 49)) M (.slice (some ⟨w0.heap.size, 0, none⟩) 0 0) 0 [] :=
  ⟨World.ownsRow_lit w0 #[] 0 hb.size (by simp) rfl, rfl, fun p hp => (by cases hp), hb.alloc hb.size _⟩
theorem FlsA.fv {w : World} {a : Option Addr} {X : List (Fa × Value)} (h : FlsA w a X) {p : Fa × Value} (hp : p ∈ X) : FvIn w p := h.byt p hp
/-- one more file -/
theorem wpList_append_fl {w x5 : World} {M : Fa × Value → Prop} {ops : Array Oper} {rest : List Oper} {o : Oper} {a : Act} {Q : Exit → Act → World → Prop} (hgd : o.guard = none) (s x : Operand)
    (ho : o.op = .call { callee := .builtin .append, args := #[s, x], argTypes := #[26, 26] })
    {v : Value} {j : Nat} {Y : List (Fa × Value)} (h : RowF w x5 M v j Y) (hs : a.eval s = v) (hj : j ≤ 16777216) (nm : List UInt8) (m c2 : Nat) (a2 : Option Addr) (S : Nat) (l : List Nat) (hp : M (⟨nm, l, S⟩, .slice a2 m c2)) (g : Nat) (hx : a.eval x = .slice (some ⟨g, 0, none⟩) 1 1) (hg : x5.heap[g]? = some (.cells #[.string (bs nm), .slice a2 m c2, .int .i64 (S : Int)] 49))
    (hK : ∀ g6 c6 x6, RowF w x6 M (.slice g6 (j + 1) c6) (j + 1) (Y ++ [(⟨nm, l, S⟩, .slice a2 m c2)]) → wpList Try.prog ops Q rest (a.put o.dst (.slice g6 (j + 1) c6)) x6) : wpList Try.prog ops Q (o :: rest) a x5 := by
  obtain ⟨i0, hi, hz0, hz1, hz2⟩ := info_parts Try.infoFl
  refine wpList_append_own x5 hgd s x _ ho w.heap.size 49 i0 zF 3 48 Try.underlying26 hi hz0 hz1 hz2 rfl (by decide) v j (imfl Y) hs h.row ⟨g, 0, none⟩ 1 1 [.string (bs nm), .slice a2 m c2, .int .i64 (S : Int)] hx rfl (im_cells hg) (im_one (slice_one _ _ _)) (by unfold maxLen; omega) (by omega) h.low.size ?_
  intro v6 x6 ho6 hg6 hn6
  obtain ⟨g6, c6, hv6⟩ : ∃ g6 c6, v6 = .slice g6 (j + 1) c6 := row_shape ho6
  subst hv6
  exact hK g6 c6 x6 (h.push (⟨nm, l, S⟩, .slice a2 m c2) hp ho6 hg6)
/-- files of a list, and one more -/
def Mem1 (X : List (Fa × Value)) (p : Fa × Value) (Y : List (Fa × Value)) : Prop := ∀ e ∈ Y, e ∈ X ∨ e = p
/-- the two tests of '>' on names -/
theorem gtr_facts (g f : List UInt8) : (f < g → Op.bytesLess g f = false ∧ (g == f) = false) ∧ (¬ f < g → (Op.bytesLess g f = true ∧ (g == f) = false) ∨ (Op.bytesLess g f = false ∧ (g == f) = true)) := by
  rw [Go.Proofs.bytesLess_eq]
  refine ⟨fun h => ⟨decide_eq_false (fun h2 => lt_irr _ (lt_tr h h2)), ?_⟩, fun h => ?_⟩
  · have : g ≠ f := fun e => by rw [e] at h; exact lt_irr _ h
    simpa using this
  · by_cases e : f = g
    · subst e
      exact .inr ⟨decide_eq_false (lt_irr _), by simp⟩
    · refine .inl ⟨decide_eq_true (lt_tot h e), ?_⟩
      have : g ≠ f := fun e2 => e e2.symm
      simpa using this
set_option maxRecDepth 100000 in
set_option maxHeartbeats 8000000 in
theorem rtake_any (w : World) (X : List (Fa × Value)) (a : Option Addr) (n c : Nat) (hn : X.length = n) (hX : FlsA w a X) (hnl : n ≤ 1048576) (nm : List UInt8) (hl : nm.length ≤ 281474976710656) :
    Calls Try.prog 60 #[.slice a n c, .string (bs nm)] w fun r w' => ∃ a' j c' Y, r = .returned (.slice a' j c') ∧ RowL w.heap.size w' a' Y ∧ Y.length = j ∧ j ≤ n ∧ (∀ e ∈ Y, e ∈ X) ∧ Y.map Prod.fst = delA (X.map Prod.fst) nm ∧ Below w.heap.size w w' := by
  have HX : Hid (FlsA w a X) := hX
  have HN : Hid (X.length = n ∧ n ≤ 1048576) := ⟨hn, hnl⟩
  have hnI : (n : Int) ≤ 1048576 := by omega
  have hn0 : (0 : Int) ≤ (n : Int) := by omega
  have HR1 : Hid (RowF w (w.alloc (.cells #[] 49)) (fun e => e ∈ X) (.slice (some ⟨w.heap.size, 0, none⟩) 0 0) 0 []) := RowF.start w w _ (Below.refl _ _)
  clear hX hn
  go_enter Try.func60, Try.ntmps60
  go_wp2
  go_loopw [5, 10] (fun v5 v10 wr => ∃ (k j : Nat) (Y : List (Fa × Value)) (g5 : Option Addr) (c5 : Nat), v10 = .int .i64 (k : Int) ∧ v5 = .slice g5 j c5 ∧ k ≤ n ∧ j ≤ k ∧ Hid (RowF w wr (fun e => e ∈ X) (.slice g5 j c5) j Y ∧ Y.map Prod.fst ++ delA ((X.map Prod.fst).drop k) nm = delA (X.map Prod.fst) nm)) (fun _ v10 _ => n - (intOf v10).toNat)
  case atStart => exact ⟨0, 0, [], _, _, rfl, rfl, Nat.zero_le _, Nat.zero_le _, HR1.out, rfl⟩
  case round =>
    obtain ⟨k, j, Y, g5, c5, rfl, rfl, hk, hj, HRR⟩ := hrel
    by_cases hkn : k < n
    · obtain ⟨⟨⟨fn, fl, S⟩, bv⟩, hp⟩ : ∃ p, X[k]? = some p := ⟨_, List.getElem?_eq_getElem (by rw [HN.out.1]; exact hkn)⟩
      have hf : (X.map Prod.fst)[k]? = some ⟨fn, fl, S⟩ := by rw [List.getElem?_map, hp]; rfl
      obtain ⟨b, off, rfl, hlt, d0, d1, d2⟩ := (HX.out.keep HRR.out.1.low).at k _ hp
      have hfv := HX.out.fv (List.mem_of_getElem? hp)
      obtain ⟨a2, c2, e2, hby, hr2⟩ := hfv
      simp only at d0 d1 d2 e2 hby hr2
      subst e2
      obtain ⟨m, hm⟩ : ∃ m, fl.length = m := ⟨_, rfl⟩
      rw [hm] at d1
      have HFV : Hid ((⟨fn, fl, S⟩, .slice a2 m c2) ∈ X) := by
        have h9 := List.mem_of_getElem? hp
        rw [hm] at h9
        exact h9
      have HRG : Hid (wr.rangeAt b (off + k * 3) [.string (bs fn), .slice a2 m c2, .int .i64 (S : Int)]) := by
        intro i v hi
        match i, hi with
        | 0, hi => rw [Nat.add_zero, d0]; exact hi
        | 1, hi => rw [d1]; exact hi
        | 2, hi => rw [d2]; exact hi
        | i + 3, hi => simp at hi
      have hst := delA_step (X.map Prod.fst) nm k _ hf
      have HST : Hid (Y.map Prod.fst ++ (if fn = nm then delA ((X.map Prod.fst).drop (k + 1)) nm else ⟨fn, fl, S⟩ :: delA ((X.map Prod.fst).drop (k + 1)) nm) = delA (X.map Prod.fst) nm) := by
        have h1 := HRR.out.2
        rw [hst] at h1
        exact h1
      have hkI : (k : Int) < (n : Int) := by omega
      have hk0 : (0 : Int) ≤ (k : Int) := by omega
      clear hp hf hm hby hr2 hst d1 d2
      by_cases e : fn = nm
      · have heq : (fn == nm) = true := by rw [e]; simp
        have hne : (fn != nm) = false := by rw [e]; simp
        have HE : Hid (Y.map Prod.fst ++ delA ((X.map Prod.fst).drop (k + 1)) nm = delA (X.map Prod.fst) nm) := by have h1 := HST.out; rw [if_pos e] at h1; exact h1
        clear e
        go_wp2
        go_roundw
        case rel => exact ⟨k + 1, j, Y, g5, c5, by go_num, rfl, by omega, by omega, HRR.out.1, HE.out⟩
        case measure => simp [intOf]; omega
      · have heq : (fn == nm) = false := by simpa using e
        have hne : (fn != nm) = true := by simpa using e
        have HE : Hid (Y.map Prod.fst ++ (⟨fn, fl, S⟩ :: delA ((X.map Prod.fst).drop (k + 1)) nm) = delA (X.map Prod.fst) nm) := by have h1 := HST.out; rw [if_neg e] at h1; exact h1
        clear e
        have HRA : Hid (RowF w (wr.alloc (.cells #[.string (bs fn), .slice a2 m c2, .int .i64 (S : Int)] 49)) (fun e => e ∈ X) (.slice g5 j c5) j Y) := HRR.out.1.keep ((Below.refl _ _).alloc (Nat.le_refl _) _)
        go_wp2_with (first
          | ((with_reducible refine guard_load 49 ?_); refine wpList_load_flr rfl _ rfl HRG.out rfl ?_)
          | (at_builtin; refine wpList_append_fl rfl _ _ rfl HRA.out rfl (by have := HN.out.2; omega) fn m c2 a2 S fl HFV.out wr.heap.size rfl (heap_alloc_new wr _) ?_; intro g6 c6 x6 hr6; have HR6 : Hid (RowF w x6 (fun e => e ∈ X) (.slice g6 (j + 1) c6) (j + 1) (Y ++ [(⟨fn, fl, S⟩, .slice a2 m c2)])) := hr6; clear hr6)
          | go_in)
        go_roundw
        case rel => exact ⟨k + 1, j + 1, Y ++ [(⟨fn, fl, S⟩, .slice a2 m c2)], g6, c6, by go_num, rfl, by omega, by omega, HR6.out, by rw [List.map_append, List.append_assoc]; exact HE.out⟩
        case measure => simp [intOf]; omega
    · obtain rfl : k = n := by omega
      have HFIN : Hid (Y.map Prod.fst = delA (X.map Prod.fst) nm) := by
        have h1 := HRR.out.2
        rw [List.drop_of_length_le (by rw [List.length_map, HN.out.1]; exact Nat.le_refl _)] at h1
        rw [← h1]
        show _ = Y.map Prod.fst ++ []
        rw [List.append_nil]
      clear hkn hk
      go_wp2
      go_ret
      exact ⟨_, _, _, Y, rfl, HRR.out.1.rowl, HRR.out.1.len, hj, HRR.out.1.mem, HFIN.out, HRR.out.1.low⟩
set_option maxRecDepth 100000 in
set_option maxHeartbeats 8000000 in
theorem rput_any (w : World) (X : List (Fa × Value)) (a : Option Addr) (n c : Nat) (hn : X.length = n) (hX : FlsA w a X) (hnl : n ≤ 1048576) (nm : List UInt8) (l : List Nat) (S : Nat) (a2 : Option Addr) (m c2 : Nat) (hl : l.length = m) :
    Calls Try.prog 49 #[.slice a n c, flV nm (.slice a2 m c2) (S : Int)] w fun r w' => ∃ a' c' Y, r = .returned (.slice a' (n + 1) c') ∧ RowL w.heap.size w' a' Y ∧ Y.length = n + 1 ∧ Mem1 X (⟨nm, l, S⟩, .slice a2 m c2) Y ∧ Y.map Prod.fst = putL ⟨nm, l, S⟩ false (X.map Prod.fst) ∧ Below w.heap.size w w' := by
  obtain ⟨W1, hW1⟩ : ∃ W1, w.alloc (.cells #[.string (bs nm), .slice a2 m c2, .int .i64 (S : Int)] 49) = W1 := ⟨_, rfl⟩
  have hb1 : Below w.heap.size w W1 := by rw [← hW1]; exact (Below.refl _ _).alloc (Nat.le_refl _) _
  have hf1 : FlAt W1 w.heap.size nm (.slice a2 m c2) (S : Int) := by rw [← hW1]; exact FlAt.new _ _ _ _
  have HR1 : Hid (RowF W1 ((w.alloc (.cells #[.string (bs nm), .slice a2 m c2, .int .i64 (S : Int)] 49)).alloc (.cells #[] 49)) (fun e => e ∈ X ∨ e = ((⟨nm, l, S⟩ : Fa), Value.slice a2 m c2)) (.slice (some ⟨w.heap.size + 1, 0, none⟩) 0 0) 0 []) := by
    have h := RowF.start (w.alloc (.cells #[.string (bs nm), .slice a2 m c2, .int .i64 (S : Int)] 49)) _ (fun e => e ∈ X ∨ e = ((⟨nm, l, S⟩ : Fa), Value.slice a2 m c2)) (Below.refl _ _)
    rw [World.size_alloc] at h
    rw [hW1] at h ⊢
    exact h
  have HX : Hid (FlsA W1 a X) := hX.keep hb1
  have HN : Hid (X.length = n ∧ n ≤ 1048576) := ⟨hn, hnl⟩
  have HF1 : Hid (Below w.heap.size w W1 ∧ FlAt W1 w.heap.size nm (.slice a2 m c2) (S : Int) ∧ w.heap.size < W1.heap.size) := ⟨hb1, hf1, lt_of_heap hf1⟩
  have hnI : (n : Int) ≤ 1048576 := by omega
  have hn0 : (0 : Int) ≤ (n : Int) := by omega
  clear hX hn hb1 hf1 hW1 hl
  go_enter Try.func49, Try.ntmps49
  go_wp2
  go_loopw [5, 6, 11] (fun v5 v6 v11 wr => ∃ (k j : Nat) (d : Bool) (Y : List (Fa × Value)) (g5 : Option Addr) (c5 : Nat), v11 = .int .i64 (k : Int) ∧ v6 = .bool d ∧ v5 = .slice g5 j c5 ∧ k ≤ n ∧ j ≤ k + 1 ∧ Hid (RowF W1 wr (fun e => e ∈ X ∨ e = ((⟨nm, l, S⟩ : Fa), Value.slice a2 m c2)) (.slice g5 j c5) j Y ∧ Y.map Prod.fst ++ putL ⟨nm, l, S⟩ d ((X.map Prod.fst).drop k) = putL ⟨nm, l, S⟩ false (X.map Prod.fst) ∧ (d = false → j ≤ k))) (fun _ _ v11 _ => n - (intOf v11).toNat)
  case atStart => exact ⟨0, 0, false, [], _, _, rfl, rfl, rfl, Nat.zero_le _, Nat.zero_le _, HR1.out, rfl, fun _ => Nat.le_refl _⟩
  case round =>
    obtain ⟨k, j, d, Y, g5, c5, rfl, rfl, rfl, hk, hj, HRR⟩ := hrel
    have HFW : Hid (FlAt wr w.heap.size nm (.slice a2 m c2) (S : Int)) := HF1.out.2.1.keep HRR.out.1.low
    by_cases hkn : k < n
    · obtain ⟨⟨⟨gn, gl, T⟩, bv⟩, hp⟩ : ∃ p, X[k]? = some p := ⟨_, List.getElem?_eq_getElem (by rw [HN.out.1]; exact hkn)⟩
      have hf : (X.map Prod.fst)[k]? = some ⟨gn, gl, T⟩ := by rw [List.getElem?_map, hp]; rfl
      obtain ⟨b, off, rfl, hlt, d0, d1, d2⟩ := (HX.out.keep HRR.out.1.low).at k _ hp
      have hfv := HX.out.fv (List.mem_of_getElem? hp)
      obtain ⟨a3, c3, e2, hby, hr2⟩ := hfv
      simp only at d0 d1 d2 e2 hby hr2
      subst e2
      obtain ⟨m3, hm⟩ : ∃ m3, gl.length = m3 := ⟨_, rfl⟩
      rw [hm] at d1
      have HFV : Hid ((⟨gn, gl, T⟩, .slice a3 m3 c3) ∈ X) := by
        have h9 := List.mem_of_getElem? hp
        rw [hm] at h9
        exact h9
      have HRG : Hid (∀ y : World, Below W1.heap.size W1 y → y.rangeAt b (off + k * 3) [.string (bs gn), .slice a3 m3 c3, .int .i64 (T : Int)]) := fun y hy => by
        obtain ⟨b', off', h1, h2, d0, d1, d2⟩ := (HX.out.keep hy).at k _ hp
        injection h1 with h1
        injection h1 with h3 h4
        subst h3 h4
        simp only [hm] at d0 d1 d2
        intro i v hi
        match i, hi with
        | 0, hi => rw [Nat.add_zero, d0]; exact hi
        | 1, hi => rw [d1]; exact hi
        | 2, hi => rw [d2]; exact hi
        | i + 3, hi => simp at hi
      have hst := putL_step ⟨nm, l, S⟩ (X.map Prod.fst) d k _ hf
      have HST : Hid (Y.map Prod.fst ++ (if d = false ∧ nm < gn then ⟨nm, l, S⟩ :: ⟨gn, gl, T⟩ :: putL ⟨nm, l, S⟩ true ((X.map Prod.fst).drop (k + 1)) else ⟨gn, gl, T⟩ :: putL ⟨nm, l, S⟩ d ((X.map Prod.fst).drop (k + 1))) = putL ⟨nm, l, S⟩ false (X.map Prod.fst)) := by
        have h1 := HRR.out.2.1
        rw [hst] at h1
        exact h1
      have hkI : (k : Int) < (n : Int) := by omega
      have hk0 : (0 : Int) ≤ (k : Int) := by omega
      obtain ⟨f0, f1, f2⟩ := HFW.out.cells
      obtain ⟨hA, hB⟩ := gtr_facts gn nm
      clear hp hf hm hby hr2 hst d1 d2 f1 f2
      by_cases hc : d = false ∧ nm < gn
      · have HE : Hid (Y.map Prod.fst ++ (⟨nm, l, S⟩ :: ⟨gn, gl, T⟩ :: putL ⟨nm, l, S⟩ true ((X.map Prod.fst).drop (k + 1))) = putL ⟨nm, l, S⟩ false (X.map Prod.fst)) := by have h1 := HST.out; rw [if_pos hc] at h1; exact h1
        obtain ⟨rfl, hc2⟩ := hc
        have hjk : j ≤ k := HRR.out.2.2 rfl
        obtain ⟨e1, e2⟩ := hA hc2
        clear hA hB hc2
        go_wp2
        go_region
        obtain ⟨xd, hxd⟩ : ∃ xd, wr.drew = xd := ⟨_, rfl⟩
        have HBD : Hid (Below wr.heap.size wr xd) := by rw [← hxd]; exact (Below.refl _ _).drew
        rw [hxd]
        have HR2 : Hid (RowF W1 xd (fun e => e ∈ X ∨ e = ((⟨nm, l, S⟩ : Fa), Value.slice a2 m c2)) (.slice g5 j c5) j Y) := HRR.out.1.keep HBD.out
        have HFD : Hid (FlAt xd w.heap.size nm (.slice a2 m c2) (S : Int)) := HFW.out.keep HBD.out
        have HRA : Hid (RowF W1 (xd.alloc (.cells #[.string (bs nm), .slice a2 m c2, .int .i64 (S : Int)] 49)) (fun e => e ∈ X ∨ e = ((⟨nm, l, S⟩ : Fa), Value.slice a2 m c2)) (.slice g5 j c5) j Y) := HR2.out.keep ((Below.refl _ _).alloc (Nat.le_refl _) _)
        have T1 : Hid True := trivial
        clear hxd
        go_wp2_with (first
          | ((with_reducible refine guard_load 49 ?_); clear T1; refine wpList_load_flb rfl _ rfl HFD.out rfl ?_; have T2 : Hid True := trivial)
          | ((with_reducible refine guard_load 49 ?_); refine wpList_load_flr rfl _ rfl (HRG.out x6 HR6.out.low) rfl ?_)
          | (at_builtin; clear T2; refine wpList_append_fl rfl _ _ rfl HRA.out rfl (by have := HN.out.2; omega) nm m c2 a2 S l (.inr rfl) xd.heap.size rfl (heap_alloc_new xd _) ?_; intro g6 c6 x6 hr6; have HR6 : Hid (RowF W1 x6 (fun e => e ∈ X ∨ e = ((⟨nm, l, S⟩ : Fa), Value.slice a2 m c2)) (.slice g6 (j + 1) c6) (j + 1) (Y ++ [(⟨nm, l, S⟩, .slice a2 m c2)])) := hr6; have HR6A : Hid (RowF W1 (x6.alloc (.cells #[.string (bs gn), .slice a3 m3 c3, .int .i64 (T : Int)] 49)) (fun e => e ∈ X ∨ e = ((⟨nm, l, S⟩ : Fa), Value.slice a2 m c2)) (.slice g6 (j + 1) c6) (j + 1) (Y ++ [(⟨nm, l, S⟩, .slice a2 m c2)])) := hr6.keep ((Below.refl _ _).alloc (Nat.le_refl _) _); clear hr6)
          | (at_builtin; refine wpList_append_fl rfl _ _ rfl HR6A.out rfl (by have := HN.out.2; omega) gn m3 c3 a3 T gl (.inl HFV.out) x6.heap.size rfl (heap_alloc_new x6 _) ?_; intro g7 c7 x7 hr7; have HR7 : Hid (RowF W1 x7 (fun e => e ∈ X ∨ e = ((⟨nm, l, S⟩ : Fa), Value.slice a2 m c2)) (.slice g7 (j + 1 + 1) c7) (j + 1 + 1) (Y ++ [(⟨nm, l, S⟩, .slice a2 m c2)] ++ [(⟨gn, gl, T⟩, .slice a3 m3 c3)])) := hr7; clear hr7)
          | go_in)
        go_roundw
        case rel => exact ⟨k + 1, j + 1 + 1, true, _, g7, c7, by go_num, rfl, rfl, by omega, by omega, HR7.out, by rw [List.map_append, List.map_append, List.append_assoc, List.append_assoc]; exact HE.out, fun h => by cases h⟩
        case measure => simp [intOf]; omega
      · have HE : Hid (Y.map Prod.fst ++ (⟨gn, gl, T⟩ :: putL ⟨nm, l, S⟩ d ((X.map Prod.fst).drop (k + 1))) = putL ⟨nm, l, S⟩ false (X.map Prod.fst)) := by have h1 := HST.out; rw [if_neg hc] at h1; exact h1
        have hcase : d = true ∨ (d = false ∧ ((Op.bytesLess gn nm = true ∧ (gn == nm) = false) ∨ (Op.bytesLess gn nm = false ∧ (gn == nm) = true))) := by
          cases d with
          | true => exact .inl rfl
          | false => exact .inr ⟨rfl, hB (fun h => hc ⟨rfl, h⟩)⟩
        clear hA hB hc
        have HRA : Hid (RowF W1 (wr.drew.alloc (.cells #[.string (bs gn), .slice a3 m3 c3, .int .i64 (T : Int)] 49)) (fun e => e ∈ X ∨ e = ((⟨nm, l, S⟩ : Fa), Value.slice a2 m c2)) (.slice g5 j c5) j Y) := HRR.out.1.keep ((Below.refl _ _).drew.alloc (Nat.le_refl _) _)
        have HRC : Hid (wr.drew.rangeAt b (off + k * 3) [.string (bs gn), .slice a3 m3 c3, .int .i64 (T : Int)]) := HRG.out wr.drew (HRR.out.1.low.trans ((Below.refl _ _).drew))
        obtain ⟨xd, hxd⟩ : ∃ xd, wr.drew = xd := ⟨_, rfl⟩
        have HXD : Hid (wr.drew = xd) := hxd
        rw [hxd] at HRA HRC
        clear hxd
        rcases hcase with rfl | ⟨rfl, ⟨e1, e2⟩ | ⟨e1, e2⟩⟩
        all_goals
          go_wp2
          go_region
          rw [HXD.out]
          go_wp2_with (first
            | ((with_reducible refine guard_load 49 ?_); refine wpList_load_flr rfl _ rfl HRC.out rfl ?_)
            | (at_builtin; refine wpList_append_fl rfl _ _ rfl HRA.out rfl (by have := HN.out.2; omega) gn m3 c3 a3 T gl (.inl HFV.out) xd.heap.size rfl (heap_alloc_new xd _) ?_; intro g6 c6 x6 hr6; have HR6 : Hid (RowF W1 x6 (fun e => e ∈ X ∨ e = ((⟨nm, l, S⟩ : Fa), Value.slice a2 m c2)) (.slice g6 (j + 1) c6) (j + 1) (Y ++ [(⟨gn, gl, T⟩, .slice a3 m3 c3)])) := hr6; clear hr6)
            | go_in)
          go_roundw
          case rel => exact ⟨k + 1, j + 1, _, _, g6, c6, by go_num, rfl, rfl, by omega, by omega, HR6.out, by rw [List.map_append, List.append_assoc]; exact HE.out, fun h => by first | (cases h; done) | (have h9 := HRR.out.2.2 trivial; omega)⟩
          case measure => simp [intOf]; omega
    · obtain rfl : k = n := by omega
      have hdr : (X.map Prod.fst).drop k = [] := List.drop_of_length_le (by rw [List.length_map, HN.out.1]; exact Nat.le_refl _)
      have hY := HRR.out.2.1
      rw [hdr] at hY
      have hlen := congrArg List.length hY
      rw [List.length_append, List.length_map, HRR.out.1.len, putL_len, putL_len, List.length_map, HN.out.1] at hlen
      obtain ⟨f0, f1, f2⟩ := HFW.out.cells
      clear hkn hk hdr f1 f2
      cases d with
      | true =>
        have HFIN : Hid (Y.map Prod.fst = putL ⟨nm, l, S⟩ false (X.map Prod.fst)) := by
          have h9 : Y.map Prod.fst ++ [] = putL ⟨nm, l, S⟩ false (X.map Prod.fst) := hY
          rw [List.append_nil] at h9
          exact h9
        obtain rfl : j = k + 1 := by simpa using hlen
        clear hY hlen
        go_wp2
        go_ret
        exact ⟨_, _, Y, rfl, HRR.out.1.rowl.mono (Nat.le_of_lt HF1.out.2.2), HRR.out.1.len, HRR.out.1.mem, HFIN.out, HF1.out.1.trans (HRR.out.1.low.mono (Nat.le_of_lt HF1.out.2.2))⟩
      | false =>
        have HFIN : Hid ((Y ++ [((⟨nm, l, S⟩ : Fa), Value.slice a2 m c2)]).map Prod.fst = putL ⟨nm, l, S⟩ false (X.map Prod.fst)) := by
          show _ = _
          rw [List.map_append]
          exact hY
        obtain rfl : j = k := by simpa using hlen
        clear hY hlen
        have HRA : Hid (RowF W1 (wr.alloc (.cells #[.string (bs nm), .slice a2 m c2, .int .i64 (S : Int)] 49)) (fun e => e ∈ X ∨ e = ((⟨nm, l, S⟩ : Fa), Value.slice a2 m c2)) (.slice g5 j c5) j Y) := HRR.out.1.keep ((Below.refl _ _).alloc (Nat.le_refl _) _)
        go_wp2_with (first
          | ((with_reducible refine guard_load 49 ?_); refine wpList_load_flb rfl _ rfl HFW.out rfl ?_)
          | (at_builtin; refine wpList_append_fl rfl _ _ rfl HRA.out rfl (by have := HN.out.2; omega) nm m c2 a2 S l (.inr rfl) wr.heap.size rfl (heap_alloc_new wr _) ?_; intro g6 c6 x6 hr6; have HR6 : Hid (RowF W1 x6 (fun e => e ∈ X ∨ e = ((⟨nm, l, S⟩ : Fa), Value.slice a2 m c2)) (.slice g6 (j + 1) c6) (j + 1) (Y ++ [(⟨nm, l, S⟩, .slice a2 m c2)])) := hr6; clear hr6)
          | go_in)
        go_ret
        exact ⟨_, ⟨_, rfl⟩, _, HR6.out.rowl.mono (Nat.le_of_lt HF1.out.2.2), HR6.out.len, HR6.out.mem, HFIN.out, HF1.out.1.trans (HR6.out.low.mono (Nat.le_of_lt HF1.out.2.2))⟩
end Go.Proofs.Ytlnhhgmdajbepaa
