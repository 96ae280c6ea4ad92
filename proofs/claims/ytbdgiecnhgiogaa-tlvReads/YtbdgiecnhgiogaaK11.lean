/- Own texts, joined: Tli, Tlj. -/
import Derived.Test.YtbdgiecnhgiogaaK10
namespace Go.Proofs.Ytbdgiecnhgiogaa
open Go.ChangeShapes Go.WideShapes Go.ChangeAt Go.RowKit
set_option linter.unusedVariables false
theorem dclos_idle (p0 p1 p2 p3 : Addr) (w : World) : CallsD Try.prog 38 #[.pointer (some p0), .pointer (some p1), .pointer (some p2), .pointer (some p3)] .returning w fun e u' w' => e = .returned (.tuple #[]) ∧ u' = .returning ∧ w' = w := by
  refine callsD_of_wpS Try.func38 rfl fun c₀ cs hu => ?_
  apply wpS_seq
  apply wpS_region
  simp [wpOpsS, go_sem, recoverD, hu, Try.ntmps38, Exit.thenS]
  refine wpS_of_wp ?_
  simp only [Array.replicate, List.replicate]
  go_wp2
  cases c₀
  simp_all [bodyPostS, results, Try.results38]
theorem dclos_catch (p0 p1 p2 p3 : Nat) (bg e : Int) (x1 : Value) (y2 y3 : Int) (older : List PanicEntry) (w : World) (h0 : w.cell? ⟨p0, 0, none⟩ = some (.int .i64 bg)) (h1 : w.cell? ⟨p1, 0, none⟩ = some x1) (h2 : w.cell? ⟨p2, 0, none⟩ = some (.int .i64 y2)) (h3 : w.cell? ⟨p3, 0, none⟩ = some (.int .i64 y3))
    (n01 : ¬ p0 = p1) (n02 : ¬ p0 = p2) (n03 : ¬ p0 = p3) (n12 : ¬ p1 = p2) (n13 : ¬ p1 = p3) (n23 : ¬ p2 = p3)
    (z1 : w.frozen? ⟨p1, 0, none⟩ = false) (z2 : w.frozen? ⟨p2, 0, none⟩ = false) (z3 : w.frozen? ⟨p3, 0, none⟩ = false) :
    CallsD Try.prog 38 #[.pointer (some ⟨p0, 0, none⟩), .pointer (some ⟨p1, 0, none⟩), .pointer (some ⟨p2, 0, none⟩), .pointer (some ⟨p3, 0, none⟩)] (.panicking ({ v := .iface 38 (.int .i64 e), recovered := false } :: older)) w fun r u' w' => r = .returned (.tuple #[]) ∧ u' = .panicking ({ v := .iface 38 (.int .i64 e), recovered := true } :: older) ∧ ∃ m, w' = (((w.setCell ⟨p1, 0, none⟩ (.slice none 0 0)).setCell ⟨p2, 0, none⟩ (.int .i64 bg)).setCell ⟨p3, 0, none⟩ (.int .i64 e)).drewN m := by
  refine callsD_of_wpS Try.func38 rfl fun c₀ cs hu => ?_
  apply wpS_seq
  apply wpS_region
  simp [wpOpsS, go_sem, recoverD, hu, Try.ntmps38, Exit.thenS]
  refine wpS_of_wp ?_
  simp only [Array.replicate, List.replicate]
  have hta : ∀ w : World, (Instr.typeAssert (.iface 38 (.int .i64 e)) 20 38 false).run Try.prog w = .ok (.int .i64 e) w := fun _ => by kernel_rfl
  have m01 : ¬ p1 = p0 := fun h => n01 h.symm
  have m02 : ¬ p2 = p0 := fun h => n02 h.symm
  have m03 : ¬ p3 = p0 := fun h => n03 h.symm
  have m12 : ¬ p2 = p1 := fun h => n12 h.symm
  have m13 : ¬ p3 = p1 := fun h => n13 h.symm
  have m23 : ¬ p3 = p2 := fun h => n23 h.symm
  go_wp2
  go_region
  all_goals go_wp2
  all_goals exact ⟨rfl, _, rfl, .tuple #[], by simp [results, Try.results38], rfl, rfl, 1, rfl⟩
end Go.Proofs.Ytbdgiecnhgiogaa
namespace Go.Proofs.Ytbdgiecnhgiogaa
open Go.ChangeShapes Go.WideShapes Go.ChangeAt Go.RowKit
set_option linter.unusedVariables false
/-- the cells of a list of fields -/
def flat : List (Fld × Value) → List Value
  | [] => []
  | p :: r => .int .i64 p.1.tag :: .bool p.1.text :: .int .u64 (p.1.num : Int) :: p.2 :: flat r
theorem flat_append : ∀ (L M : List (Fld × Value)), flat (L ++ M) = flat L ++ flat M
  | [], M => rfl
  | p :: r, M => by simp only [List.cons_append, flat, flat_append r M]
theorem flat_length : ∀ (L : List (Fld × Value)), (flat L).length = L.length * 4
  | [] => rfl
  | p :: r => by simp only [flat, List.length_cons, flat_length r]; omega
/-- a row of fields of the call's own, and their bytes -/
structure Rws (w : World) (base : Nat) (v : Value) (L : List (Fld × Value)) : Prop where
  own : w.ownsRow base 32 4 v L.length (flat L)
  byt : ∀ p ∈ L, Own w base p.2 p.1.bytes
theorem own_same2 {w w' : World} {base : Nat} {e : TypeId} {size : Nat} {v : Value} {n : Nat} {xs : List Value} (h : w.ownsRow base e size v n xs) (hs : ∀ k, base ≤ k → k < w.heap.size → w'.heap[k]? = w.heap[k]?) : w'.ownsRow base e size v n xs := by
  refine ⟨h.1, ?_⟩
  rcases h.2 with h2 | ⟨g, cap, cur, h3, h4, h5, h6⟩
  · exact .inl h2
  · exact .inr ⟨g, cap, cur, h3, h4, (hs g h4 (lt_of_heap h5)).trans h5, h6⟩
theorem Rws.same {w w' : World} {base : Nat} {v : Value} {L : List (Fld × Value)} (h : Rws w base v L) (hs : ∀ k, base ≤ k → k < w.heap.size → w'.heap[k]? = w.heap[k]?) : Rws w' base v L :=
  ⟨own_same2 h.own hs, fun p hp => ⟨(h.byt p hp).1, own_same2 (h.byt p hp).2 hs⟩⟩
theorem Rws.nil (w : World) (base : Nat) : Rws w base (.slice none 0 0) [] := ⟨World.ownsRow_nil w base _ 4, fun p hp => by cases hp⟩
theorem Rws.mono {w : World} {base base' : Nat} {v : Value} {L : List (Fld × Value)} (h : Rws w base v L) (hb : base' ≤ base) : Rws w base' v L :=
  ⟨h.own.mono hb, fun p hp => ⟨(h.byt p hp).1, (h.byt p hp).2.mono hb⟩⟩
/-- bytes in a row of their own are not touched by an append to a row of fields -/
theorem own_grown {w w' : World} {base n : Nat} {v p : Value} {xs : List Value} {l : List Nat} (ho : w.ownsRow base 32 4 v n xs) (hg : w.grownBy w' v.ownBlock) (hp : Own w base p l) : Own w' base p l := by
  refine ⟨hp.1, hp.2.1, ?_⟩
  rcases hp.2.2 with h2 | ⟨g, cap, cur, h3, h4, h5, h6⟩
  · exact .inl h2
  · refine .inr ⟨g, cap, cur, h3, h4, ?_, h6⟩
    rw [hg.block g (lt_of_heap h5) (fun h => ?_)]
    · exact h5
    · rcases ho.2 with ⟨rfl, _⟩ | ⟨g2, cap2, cur2, rfl, _, hh, _⟩
      · simp [Value.ownBlock] at h
      · have : g = g2 := by simpa [Value.ownBlock] using h
        subst this
        rw [h5] at hh
        cases hh
/-- Decode's variables -/
structure DecB (w wr : World) (a : Option Addr) (n cap i bg : Nat) (v0 : Value) : Prop where
  fs : wr.heap[w.heap.size]? = some (.cells #[v0] 26)
  at0 : wr.heap[w.heap.size + 1]? = some (.cells #[.int .i64 0] 3)
  er : wr.heap[w.heap.size + 1 + 1]? = some (.cells #[.int .i64 0] 38)
  cur : CurAt wr (w.heap.size + 1 + 1 + 1) a n cap i
  beg : wr.heap[w.heap.size + 1 + 1 + 1 + 1]? = some (.cells #[.int .i64 (bg : Int)] 3)
  bel : Below w.heap.size w wr
  size : w.heap.size + 5 ≤ wr.heap.size
theorem DecB.same {w wr wr' : World} {a : Option Addr} {n cap i bg : Nat} {v0 : Value} (h : DecB w wr a n cap i bg v0) (h1 : wr'.os = wr.os) (h2 : wr'.tape = wr.tape) (h3 : wr'.output = wr.output) (h4 : wr.heap.size ≤ wr'.heap.size) (hs : ∀ k, k < w.heap.size + 5 → wr'.heap[k]? = wr.heap[k]?) : DecB w wr' a n cap i bg v0 :=
  ⟨(hs _ (by omega)).trans h.fs, (hs _ (by omega)).trans h.at0, (hs _ (by omega)).trans h.er, (hs _ (by omega)).trans h.cur, (hs _ (by omega)).trans h.beg, ⟨h1.trans h.bel.os, h2.trans h.bel.tape, h3.trans h.bel.output, Nat.le_trans h.bel.size h4, fun k hk => (hs k (by omega)).trans (h.bel.block k hk)⟩, Nat.le_trans h.size h4⟩
theorem DecB.drewN {w wr : World} {a : Option Addr} {n cap i bg : Nat} {v0 : Value} (h : DecB w wr a n cap i bg v0) (m : Nat) : DecB w (wr.drewN m) a n cap i bg v0 := by
  induction m with
  | zero => exact h
  | succ m ih => exact ih.same rfl rfl rfl (Nat.le_refl _) (fun _ _ => rfl)
theorem DecB.alloc {w wr : World} {a : Option Addr} {n cap i bg : Nat} {v0 : Value} (h : DecB w wr a n cap i bg v0) (o : Obj) : DecB w (wr.alloc o) a n cap i bg v0 :=
  h.same rfl rfl rfl (by simp) (fun k hk => Below.heap_alloc wr o k (by have := h.size; omega))
theorem DecB.grown {w wr wr' : World} {a : Option Addr} {n cap i bg : Nat} {v0 : Value} {row : Option Nat} (h : DecB w wr a n cap i bg v0) (hg : wr.grownBy wr' row) (hr : ∀ k, row = some k → w.heap.size + 5 ≤ k) : DecB w wr' a n cap i bg v0 :=
  h.same hg.os hg.tape hg.output hg.size (fun k hk => hg.block k (by have := h.size; omega) (fun hh => by have := hr k hh.symm; omega))
theorem DecB.begin {w wr : World} {a : Option Addr} {n cap i bg : Nat} {v0 : Value} (h : DecB w wr a n cap i bg v0) (j : Nat) : DecB w (wr.setCell ⟨w.heap.size + 1 + 1 + 1 + 1, 0, none⟩ (.int .i64 (j : Int))) a n cap i j v0 := by
  have ho : ∀ k, k ≠ w.heap.size + 1 + 1 + 1 + 1 → (wr.setCell ⟨w.heap.size + 1 + 1 + 1 + 1, 0, none⟩ (.int .i64 (j : Int))).heap[k]? = wr.heap[k]? := fun k hk => heap_setCell_other wr ⟨w.heap.size + 1 + 1 + 1 + 1, 0, none⟩ k _ hk
  refine ⟨(ho _ (by omega)).trans h.fs, (ho _ (by omega)).trans h.at0, (ho _ (by omega)).trans h.er, (ho _ (by omega)).trans h.cur, ?_, h.bel.setCell (p := ⟨w.heap.size + 1 + 1 + 1 + 1, 0, none⟩) (by show w.heap.size ≤ w.heap.size + 1 + 1 + 1 + 1; omega) _, by simp; exact h.size⟩
  rw [heap_setCell_same wr _ 0 _ _ _ h.beg]; rfl
theorem DecB.put {w wr : World} {a : Option Addr} {n cap i bg : Nat} {v0 : Value} (h : DecB w wr a n cap i bg v0) (v1 : Value) : DecB w (wr.setCell ⟨w.heap.size, 0, none⟩ v1) a n cap i bg v1 := by
  have ho : ∀ k, k ≠ w.heap.size → (wr.setCell ⟨w.heap.size, 0, none⟩ v1).heap[k]? = wr.heap[k]? := fun k hk => heap_setCell_other wr ⟨w.heap.size, 0, none⟩ k _ hk
  refine ⟨?_, (ho _ (by omega)).trans h.at0, (ho _ (by omega)).trans h.er, (ho _ (by omega)).trans h.cur, (ho _ (by omega)).trans h.beg, h.bel.setCell (p := ⟨w.heap.size, 0, none⟩) (Nat.le_refl _) _, by simp; exact h.size⟩
  rw [heap_setCell_same wr _ 0 _ _ _ h.fs]; rfl
theorem DecB.kept {w wr wr' : World} {a : Option Addr} {n cap i j bg : Nat} {v0 : Value} (h : DecB w wr a n cap i bg v0) (hk : Kept (w.heap.size + 1 + 1 + 1) (w.heap.size + 1 + 1 + 1) wr wr') (hc : CurAt wr' (w.heap.size + 1 + 1 + 1) a n cap j) : DecB w wr' a n cap j bg v0 := by
  have ho : ∀ k, k < w.heap.size + 5 → k ≠ w.heap.size + 1 + 1 + 1 → wr'.heap[k]? = wr.heap[k]? := fun k hk1 hk2 => hk.block k (by have := h.size; omega) hk2 hk2
  exact ⟨(ho _ (by omega) (by omega)).trans h.fs, (ho _ (by omega) (by omega)).trans h.at0, (ho _ (by omega) (by omega)).trans h.er, hc, (ho _ (by omega) (by omega)).trans h.beg, hk.below h.bel (by omega) (by omega), Nat.le_trans h.size hk.size⟩
theorem DecB.keptB {w wr wr' : World} {a : Option Addr} {n cap i bg : Nat} {v0 : Value} (h : DecB w wr a n cap i bg v0) (hk : Kept (w.heap.size + 1 + 1 + 1) (w.heap.size + 1 + 1 + 1) wr wr') : (∃ x y, wr'.heap[w.heap.size]? = some (.cells #[x] y)) ∧ wr'.heap[w.heap.size]? = wr.heap[w.heap.size]? ∧ wr'.heap[w.heap.size + 1]? = wr.heap[w.heap.size + 1]? ∧ wr'.heap[w.heap.size + 1 + 1]? = wr.heap[w.heap.size + 1 + 1]? ∧ wr'.heap[w.heap.size + 1 + 1 + 1 + 1]? = wr.heap[w.heap.size + 1 + 1 + 1 + 1]? ∧ Below w.heap.size w wr' := by
  have ho : ∀ k, k < w.heap.size + 5 → k ≠ w.heap.size + 1 + 1 + 1 → wr'.heap[k]? = wr.heap[k]? := fun k hk1 hk2 => hk.block k (by have := h.size; omega) hk2 hk2
  exact ⟨⟨_, _, (ho _ (by omega) (by omega)).trans h.fs⟩, ho _ (by omega) (by omega), ho _ (by omega) (by omega), ho _ (by omega) (by omega), ho _ (by omega) (by omega), hk.below h.bel (by omega) (by omega)⟩
/-- the five blocks that Decode lays -/
theorem lay5 (w : World) (a : Option Addr) (n cap : Nat) : ∃ W, ((((w.alloc (.cells #[.slice none 0 0] 26)).alloc (.cells #[.int .i64 0] 3)).alloc (.cells #[.int .i64 0] 38)).alloc (.cells #[.slice a n cap, .int .i64 0] 83)).alloc (.cells #[.int .i64 0] 3) = W ∧ DecB w W a n cap 0 0 (.slice none 0 0) := by
  refine ⟨_, rfl, ?_, ?_, ?_, ?_, ?_, ((((((Below.refl _ _).alloc (Nat.le_refl _) _).alloc (by simp) _).alloc (by simp; try omega) _).alloc (by simp; try omega) _).alloc (by simp; try omega) _), by simp; try omega⟩
  · simp only [World.alloc, Array.getElem?_push, Array.size_push]
    rw [if_neg (by omega), if_neg (by omega), if_neg (by omega), if_neg (by omega), if_pos trivial]
  · simp only [World.alloc, Array.getElem?_push, Array.size_push]
    rw [if_neg (by omega), if_neg (by omega), if_neg (by omega), if_pos trivial]
  · simp only [World.alloc, Array.getElem?_push, Array.size_push]
    rw [if_neg (by omega), if_neg (by omega), if_pos trivial]
  · unfold CurAt
    simp only [World.alloc, Array.getElem?_push, Array.size_push]
    rw [if_neg (by omega), if_pos trivial]; rfl
  · simp only [World.alloc, Array.getElem?_push, Array.size_push]
    rw [if_pos trivial]; rfl
theorem results_cells3 {fn : Func} {t s q : Tmp} {ty tz tq : TypeId} (h : fn.results = #[.cell t ty, .cell s tz, .cell q tq]) (tmps : Array Value) (w : World) (b c d : Nat) (v x y : Value) (ht : tmps.getD t undef = .pointer (some ⟨b, 0, none⟩)) (hs : tmps.getD s undef = .pointer (some ⟨c, 0, none⟩)) (hq : tmps.getD q undef = .pointer (some ⟨d, 0, none⟩)) (hl : (Go.loadVar ty ⟨b, 0, none⟩).run Try.prog w = .ok v w) (hm : (Go.loadVar tz ⟨c, 0, none⟩).run Try.prog w = .ok x w) (hr : (Go.loadVar tq ⟨d, 0, none⟩).run Try.prog w = .ok y w) :
    (results fn tmps).run Try.prog w = .ok (.tuple #[v, x, y]) w := by
  simp only [Array.getD_eq_getD_getElem?] at ht hs hq
  simp [results, h, ht, hs, hq, asAddr, hl, hm, hr]
theorem loadFs {w : World} {b : Nat} {v : Value} (h : w.cell? ⟨b, 0, none⟩ = some v) : (Go.loadVar 26 ⟨b, 0, none⟩).run Try.prog w = .ok v w := by
  have ha : (isAgg 26).run Try.prog w = .ok false w := by kernel_rfl
  simp [go_sem, h, ha]
theorem loadI {w : World} {b : Nat} {v : Value} (h : w.cell? ⟨b, 0, none⟩ = some v) : (Go.loadVar 3 ⟨b, 0, none⟩).run Try.prog w = .ok v w := by
  have ha : (isAgg 3).run Try.prog w = .ok false w := by kernel_rfl
  simp [go_sem, h, ha]
theorem loadE {w : World} {b : Nat} {v : Value} (h : w.cell? ⟨b, 0, none⟩ = some v) : (Go.loadVar 38 ⟨b, 0, none⟩).run Try.prog w = .ok v w := by
  have ha : (isAgg 38).run Try.prog w = .ok false w := by kernel_rfl
  simp [go_sem, h, ha]
theorem decs_succ (fuel : Nat) (l : List Nat) (last : Int) (i : Nat) (acc : List Fld) : decs (fuel + 1) l last i acc = if l.length ≤ i then (acc, 0, 0) else if (next (l.drop i) last).2.2 ≠ 0 then ([], i, (next (l.drop i) last).2.2) else decs fuel l (next (l.drop i) last).1.tag (i + (next (l.drop i) last).2.1) (acc ++ [(next (l.drop i) last).1]) := rfl
end Go.Proofs.Ytbdgiecnhgiogaa
