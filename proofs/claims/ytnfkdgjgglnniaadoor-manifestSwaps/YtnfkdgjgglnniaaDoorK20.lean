/- Own texts, joined: Mf7. -/
import Derived.Test.YtnfkdgjgglnniaaDoorK19
namespace Go.Proofs.YtnfkdgjgglnniaaDoor
open Go.ChangeShapes Go.WideShapes Go.ChangeAt Go.RowKit Go.Shelf
set_option linter.unusedVariables false
attribute [local go_sem] Oper.semAt_some
theorem at_sliceN {ops : Array Oper} {rest : List Oper} {a : Act} {w : World} {Q : Exit → Act → World → Prop} {dst : Option Tmp} {ty : TypeId} {pos : String} {after : Array Edge} {s lo : Operand}
    (h : wpList Tryd.prog ops Q (⟨dst, .slice 66 s (some lo) none none, ty, pos, after, none⟩ :: rest) a w) : wpList Tryd.prog ops Q (⟨dst, .slice 66 s (some lo) none none, ty, pos, after, none⟩ :: rest) a w := h
theorem slice_underN : Tryd.prog.underlying 66 = some (.slice (Tryd.prog.elem 66)) := by kernel_rfl
theorem slice_sizeN (w : World) : (sizeOf (Tryd.prog.elem 66)).run Tryd.prog w = .ok 1 w := by kernel_rfl
theorem nums_cut4 {w : World} {b o c : Nat} {u0 u1 u2 u3 : Nat} {r : List Nat} (h : Nums w (some ⟨b, o, none⟩) (u0 :: u1 :: u2 :: u3 :: r)) (hc : r.length + 4 ≤ c) : Nums w (if c = 4 then some ⟨b, o, none⟩ else (some (⟨b, o, none⟩ : Addr)).map (·.add (4 * 1))) r := by
  by_cases hc4 : c = 4
  · rw [if_pos hc4]
    have : r = [] := List.length_eq_zero_iff.1 (by omega)
    subst this
    exact ⟨fun i => by simp, .inl rfl⟩
  · rw [if_neg hc4]
    obtain ⟨h1, h2⟩ := h
    refine ⟨fun i => by have := h1 (i + 4); simpa using this, ?_⟩
    rcases h2 with h2 | ⟨b2, off2, he, hlt, hcl⟩
    · cases h2
    · cases he
      refine .inr ⟨b, o + 4, by simp [Addr.add], hlt, fun i hi => ?_⟩
      have := hcl (i + 4) (by simp; omega)
      rw [show o + 4 + i = o + (i + 4) from by omega, this]
      simp
set_option maxRecDepth 20000 in
theorem wpList_slice_n {ops : Array Oper} {rest : List Oper} {op : Oper} {a : Act} {w : World} {Q : Exit → Act → World → Prop} (hgd : op.guard = none) (s lo : Operand) (ho : op.op = .slice 66 s (some lo) none none)
    {b o n cap : Nat} {u0 u1 u2 u3 : Nat} {r : List Nat} (hs : a.eval s = .slice (some ⟨b, o, none⟩) n cap) (hlo : a.eval lo = .int .i64 4) (hi : r.length + 4 = n) (hn : n ≤ cap)
    (h : ∀ x, (∀ w0, Nums w0 (some ⟨b, o, none⟩) (u0 :: u1 :: u2 :: u3 :: r) → Nums w0 x r) → (∀ b2 o2, x = some ⟨b2, o2, none⟩ → b2 = b) → wpList Tryd.prog ops Q rest (a.put op.dst (.slice x (n - 4) (cap - 4))) w) : wpList Tryd.prog ops Q (op :: rest) a w := by
  refine wpList_plain hgd fun K hK => ?_
  have hrun := run_slice_l (P := Tryd.prog) w 66 (some ⟨b, o, none⟩) n cap slice_underN .i64 (4 : Int) (by omega) (by omega)
  unfold Oper.wp execOp
  simp only [ho, hs, hlo, Option.map_some, Option.map_none, Sem.run_bind, Sem.run_pure, Result.andThen_ok, run_sliceAt_slice (P := Tryd.prog) w 66 _ _ _ _ slice_underN, hrun, slice_sizeN, sliced]
  refine hK _ _ (h _ (fun w0 hb => nums_cut4 hb (by omega)) (fun b2 o2 hx => ?_))
  split at hx
  · cases hx; rfl
  · simp only [Option.some.injEq, Addr.add] at hx; split at hx <;> (injection hx with hx1; exact hx1.symm)
/-- the same post, and no panic -/
def noPanic (Q : Exit → Act → World → Prop) : Exit → Act → World → Prop
  | .panic _, _, _ => False
  | e, a, w => Q e a w
theorem noPanic_le {Q : Exit → Act → World → Prop} {e : Exit} {a : Act} {w : World} (h : noPanic Q e a w) : Q e a w := by
  cases e with
  | panic c => exact h.elim
  | _ => exact h
theorem own64_cap {w : World} {base n c : Nat} {a : Option Addr} {U : List Nat} (h : Own64 w base (.slice a n c) U) : n ≤ c := by
  rcases h.2.2 with ⟨h1, _⟩ | ⟨g, cap, cur, h1, _, _, h2, _⟩
  · cases h1; exact Nat.le_refl _
  · cases h1; exact h2
theorem cells_keptM {X Y : World} {row : Option Nat} {b : Nat} {c : Array Value} {t : TypeId} {m : Nat × Nat} (h : X.heap[b]? = some (.cells c t m)) (hg : X.grownBy Y row) (hr : ∀ r, row = some r → ∃ o : Obj, X.heap[r]? = some o ∧ o.isCells = false) : Y.heap[b]? = some (.cells c t m) := by
  refine (hg.block b (lt_of_heap h) (fun e => ?_)).trans h
  obtain ⟨o, h1, h2⟩ := hr b e.symm
  rw [h] at h1
  cases h1
  cases h2
theorem row_keptM {X Y : World} {row : Option Nat} {base size n : Nat} {e : TypeId} {v : Value} {xs : List Value} (h : X.ownsRow base e size v n xs) (hg : X.grownBy Y row) (hr : ∀ r, row = some r → ∃ o : Obj, X.heap[r]? = some o ∧ o.isCells = false) : Y.ownsRow base e size v n xs := by
  refine ⟨h.1, ?_⟩
  rcases h.2 with h2 | ⟨g, cap, cur, h3, h4, h5, h6⟩
  · exact .inl h2
  · exact .inr ⟨g, cap, cur, h3, h4, cells_keptM h5 hg hr, h6⟩
theorem keeps_belowM {W W' : World} (h : Below W.heap.size W W') : KeepsOthers W W' := ⟨h.size, fun k o hk _ => (h.block k (lt_of_heap hk)).trans hk⟩
/-- the variables of Decode's loop: the manifest (block bm), its segments a row of the loop's own (from n₀ on), the answer's place (block zb) -/
structure DI (w : World) (zb bm n₀ : Nat) (m0 : Mf) (pre : List Sm) (W : World) : Prop where
  mf : ∃ v, MfAt W bm m0 v ∧ OwnSm W n₀ v pre
  zero : MfAt W zb zeroM (.slice none 0 0)
  bel : Below w.heap.size w W
  siz : n₀ ≤ W.heap.size
theorem DI.own (w : World) (zb bm n₀ : Nat) (m0 : Mf) (B : Nat) (hB : w.heap.size ≤ B) : OwnFrom B (DI w zb bm n₀ m0) := by
  rintro pre X Y row ⟨⟨v, h1, h2⟩, h3, h5, h6⟩ hg hr
  have hr2 : ∀ r, row = some r → ∃ o : Obj, X.heap[r]? = some o ∧ o.isCells = false := fun r e => (hr r e).2
  exact ⟨⟨v, cells_keptM h1 hg hr2, row_keptM h2 hg hr2⟩, cells_keptM h3 hg hr2, h5.grown hg h5.size (fun r e => Nat.le_trans hB (hr r e).1), Nat.le_trans h6 hg.size⟩
theorem DI.below {w W W' : World} {zb bm n₀ : Nat} {m0 : Mf} {pre : List Sm} (h : DI w zb bm n₀ m0 pre W) (hb : Below W.heap.size W W') : DI w zb bm n₀ m0 pre W' := by
  obtain ⟨⟨v, h1, h2⟩, h3, h5, h6⟩ := h
  exact ⟨⟨v, h1.after hb, h2.keep hb⟩, h3.after hb, h5.trans (hb.mono h5.size), Nat.le_trans h6 hb.size⟩
/-- the end of a round -/
theorem DI.step {w W W4 w5 : World} {zb bm n₀ : Nat} {m0 : Mf} {pre : List Sm} {x : Sm} {v : Value} {ga : Option Addr} {gn gc : Nat} (h : DI w zb bm n₀ m0 pre W) (hb4 : Below W.heap.size W W4)
    (hv : MfAt W bm m0 v) (ho : W4.ownsRow n₀ 55 4 v pre.length (sfl pre)) (hg : W4.grownBy w5 v.ownBlock) (ho5 : w5.ownsRow n₀ 55 4 (.slice ga gn gc) (pre.length + 1) (sfl pre ++ [.int .i64 x.num, .int .i64 x.first, .int .i64 x.count, .int .i64 x.foot]))
    (hn : w.heap.size ≤ n₀) (hbm : w.heap.size ≤ bm) (hz : zb ≠ bm) (B : Nat) :
    KeepsFrom B W (w5.setCell ⟨bm, 5, none⟩ (.slice ga gn gc)) ∧ KE n₀ bm W (w5.setCell ⟨bm, 5, none⟩ (.slice ga gn gc)) ∧ DI w zb bm n₀ m0 (pre ++ [x]) (w5.setCell ⟨bm, 5, none⟩ (.slice ga gn gc)) := by
  obtain ⟨_, h3, h5, h6⟩ := h.below hb4
  have hv5 : MfAt w5 bm m0 v := grown_boxM ho hg (hv.after hb4) (by decide)
  have hz5 : MfAt w5 zb zeroM (.slice none 0 0) := grown_boxM ho hg h3 (by decide)
  have hB5 : Below w.heap.size w w5 := h5.grown hg h5.size (fun r e => Nat.le_trans hn (ho.lt r e).1)
  have hcell : ∀ (r : Nat) (o : Obj), v.ownBlock = some r → W4.heap[r]? = some o → o.isCells = true := by
    intro r o hr ho2
    rcases ho.2 with ⟨rfl, _⟩ | ⟨g, cap, cur, rfl, _, hh, _⟩
    · simp [Value.ownBlock] at hr
    · have : g = r := by simpa [Value.ownBlock] using hr
      subst this
      rw [hh] at ho2
      cases ho2
      rfl
  refine ⟨((keeps_belowM hb4).trans ((KeepsOthers.of_grownBy hg hcell).trans (KeepsOthers.setCell _ _ _))).from B, ⟨?_, ?_⟩, ⟨⟨.slice ga gn gc, ?_, ?_⟩, ?_, hB5.setCell (p := ⟨bm, 5, none⟩) hbm _, ?_⟩⟩
  · have h1 := hg.size
    have h2 := hb4.size
    simp only [World.size_setCell]
    omega
  · intro k h1 h2 h4
    rw [heap_setCell_other w5 ⟨bm, 5, none⟩ k _ h2, hg.block k (Nat.lt_of_lt_of_le h4 hb4.size) (fun e => by have := (ho.lt k e.symm).1; omega)]
    exact hb4.block k h4
  · have h1 := heap_setCell_same w5 bm 5 _ _ (.slice ga gn gc) hv5
    rw [MfAt, h1]
    rfl
  · refine OwnSm.snoc rfl ⟨ho5.1, ?_⟩
    rcases ho5.2 with h2 | ⟨g, cap, cur, g3, g4, g5, g6⟩
    · exact .inl h2
    · refine .inr ⟨g, cap, cur, g3, g4, (heap_setCell_other w5 ⟨bm, 5, none⟩ g _ ?_).trans g5, g6⟩
      rintro rfl
      have := (show w5.heap[g]? = _ from hv5).symm.trans g5
      cases this
  · exact (heap_setCell_other w5 ⟨bm, 5, none⟩ zb _ hz).trans hz5
  · simp only [World.size_setCell]
    exact Nat.le_trans h6 hg.size
theorem segs_stops (n : Nat) (hn : 1 ≤ n) (U : List Nat) (m k bm : Nat) (a : Option Addr) (cap : Nat) (w : World) (hm : U.length = m) (hb : NumsE w.heap.size bm w a U) (hcap : m ≤ cap) (hl : m ≤ 1028) (hk : w.heap[k]? = some (.cells #[.slice a m cap] 66)) :
    SeqW Fence.wide n Tryd.prog 55 #[.pointer (some ⟨k, 0, none⟩)] (fun x => #[SmV x]) (KE w.heap.size bm) (fun pre x _ => (pre ++ [x]) <+: smsOf U) (fun xs => xs = smsOf U) (fun _ => True) w :=
  fun lp J Jx V hV hJ _ hY h0 => segs1_in n hn U m k bm a cap w hm hb hcap hl lp J Jx V hk hV hJ hY h0
theorem SmAt.new (w : World) (s : Sm) : SmAt (w.alloc (.cells #[.int .i64 s.num, .int .i64 s.first, .int .i64 s.count, .int .i64 s.foot] 55)) w.heap.size s := heap_alloc_new w _
theorem cell_newS (w : World) (s : Sm) : ∀ j u, [.int .i64 s.num, .int .i64 s.first, .int .i64 s.count, .int .i64 s.foot][j]? = some u → (w.alloc (.cells #[.int .i64 s.num, .int .i64 s.first, .int .i64 s.count, .int .i64 s.foot] 55)).cell? ((⟨w.heap.size, 0, none⟩ : Addr).add j) = some u := cell_new4 w _ _ _ _ _
theorem OwnSm.otherM {w w' : World} {base k : Nat} {v : Value} {L : List Sm} (h : OwnSm w base v L) (hk : k < base) (hs : ∀ j, j ≠ k → w'.heap[j]? = w.heap[j]?) : OwnSm w' base v L := by
  refine ⟨h.1, ?_⟩
  rcases h.2 with h2 | ⟨g, cap, cur, h3, h4, h5, h6⟩
  · exact .inl h2
  · exact .inr ⟨g, cap, cur, h3, h4, (hs g (by omega)).trans h5, h6⟩
/-- what is left when the loop's mark is taken up -/
theorem dec_end {w W : World} {zb D base : Nat} {m : Mf} {v : Value} {L : List Sm} (hm : MfAt W zb m v) (hr : OwnSm W base v L) (hbel : Below w.heap.size w W) (hK : W.heap[D]? = some (.deferred (some []))) (hD : w.heap.size ≤ D) (hz : zb ≠ D) (hb : w.heap.size ≤ base) :
    MfAt (W.putObj D (.deferred none)) zb m v ∧ OwnSm (W.putObj D (.deferred none)) w.heap.size v L ∧ Below w.heap.size w (W.putObj D (.deferred none)) :=
  ⟨(World.putObj_heap_other hz).trans hm, World.ownsRow.mono (ownsRow_putObj hr _ hK rfl) hb, hbel.grown (grownBy_putObj' _ D _) hbel.size (fun k e => by cases e; exact hD)⟩
end Go.Proofs.YtnfkdgjgglnniaaDoor
