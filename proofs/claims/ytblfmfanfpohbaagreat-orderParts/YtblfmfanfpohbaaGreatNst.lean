/- What the reference's Share keeps in memory while it deals. -/
import Derived.Test.YtblfmfanfpohbaaGreatNsr
import Derived.Test.YtblfmfanfpohbaaGreatTwo
namespace Go.Proofs.YtblfmfanfpohbaaGreat
open Go.ChangeShapes Go.WideShapes Go.ChangeAt Go.RowKit Go.Sort
set_option linter.unusedVariables false
/-- append to a row of the call's own, elements of any size: it stays where it is, or goes to new memory -/
theorem wpList_append_twoK {P : Program} (w : World) {ops : Array Oper} {rest : List Oper} {o : Oper} {a : Act} {Q : Exit → Act → World → Prop}
    (hg : o.guard = none) (s x : Operand) (t : TypeId) (hop : o.op = Op.call { callee := Callee.builtin Builtin.append, args := #[s, x], argTypes := #[t, t] })
    (base : Nat) (e : TypeId) (i : TypeInfo) (z : Value) (K bytes : Nat) (hK0 : 0 < K) (h1 : P.underlying t = some (.slice e)) (h2 : P.info? e = some i) (h3 : i.zero = some z) (h4 : i.size = K) (h5 : i.bytes = bytes) (h6 : z.cells.size = K)
    (g n cap : Nat) (xs : List Value) (hs : a.eval s = .slice (some ⟨g, 0, none⟩) n cap) (hown : w.ownsRow base e K (.slice (some ⟨g, 0, none⟩) n cap) n xs) (ad : Addr) (m c : Nat) (news : List Value) (hx : a.eval x = .slice (some ad) m c) (hn : news.length = m * K)
    (hc : ∀ j u, news[j]? = some u → w.cell? (ad.add j) = some u) (h1c : ∀ u ∈ news, u.oneCell' = true) (hm : 0 < m) (b1 : n + m ≤ maxLen) (b2 : (n + m) * bytes ≤ 140737488355328) (hbase : base ≤ w.heap.size)
    (hK : ∀ g' cap' w', (g' = g ∨ w.heap.size ≤ g') → g' < w'.heap.size → w'.ownsRow base e K (.slice (some ⟨g', 0, none⟩) (n + m) cap') (n + m) (xs ++ news) → w.grownBy w' (some g) → wpList P ops Q rest (a.put o.dst (.slice (some ⟨g', 0, none⟩) (n + m) cap')) w') :
    wpList P ops Q (o :: rest) a w := by
  have hlt : ∀ {w' : World} {g' cap' b' : Nat} {ys : List Value}, w'.ownsRow b' e K (.slice (some ⟨g', 0, none⟩) (n + m) cap') (n + m) ys → g' < w'.heap.size := by
    intro w' g' cap' b' ys ho
    rcases ho.2 with ⟨h, _⟩ | ⟨g2, cap2, cur, h, _, hh, _⟩
    · cases h
    · cases h
      by_cases hh2 : g' < w'.heap.size
      · exact hh2
      · rw [Array.getElem?_eq_none (by omega)] at hh; cases hh
  by_cases hroom : n + m ≤ cap
  · exact wpList_append_fits w hg s x t hop base e i K h1 h2 h4 g n cap xs hs hown ad m c news hx hn hc h1c hroom (fun w' ho hgr => hK g cap w' (.inl rfl) (hlt ho) ho hgr)
  · refine wpList_append_grows w hg s x t hop e i z K bytes h1 h2 h3 h4 h5 h6 hK0 (some ⟨g, 0, none⟩) n cap xs hs (fun h => by cases h) hown.1 (fun b hb j u hj => ?_) ad m c news hx hn hc h1c (by omega) b1 b2 (fun v' w' ho hgr => ?_)
    · cases hb
      exact hown.cells (g := g) rfl j u hj
    · rcases ho.2 with ⟨hv, hz⟩ | ⟨g', cap', cur, hv, hbg, hh, hr1, hr2, hr3, hr4⟩
      · omega
      · subst hv
        exact hK g' cap' w' (.inr hbg) (hlt ho) ⟨ho.1, .inr ⟨g', cap', cur, rfl, Nat.le_trans hbase hbg, hh, hr1, hr2, hr3, hr4⟩⟩ ⟨hgr.os, hgr.tape, hgr.output, hgr.size, fun k hk _ => hgr.block k hk (by simp)⟩
theorem own_at {w w' : World} {base : Nat} {e : TypeId} {K n g cap : Nat} {xs : List Value} (h : w.ownsRow base e K (.slice (some ⟨g, 0, none⟩) n cap) n xs) (hb : w'.heap[g]? = w.heap[g]?) : w'.ownsRow base e K (.slice (some ⟨g, 0, none⟩) n cap) n xs := by
  obtain ⟨h1, h2⟩ := h
  rcases h2 with ⟨hv, _⟩ | ⟨g2, cap2, cur, hv, hbg, hg, hr⟩
  · cases hv
  · cases hv
    exact ⟨h1, .inr ⟨g, cap, cur, rfl, hbg, hb.trans hg, hr⟩⟩
theorem own_lt {w : World} {base : Nat} {e : TypeId} {K n g cap : Nat} {xs : List Value} (h : w.ownsRow base e K (.slice (some ⟨g, 0, none⟩) n cap) n xs) : g < w.heap.size ∧ base ≤ g := by
  obtain ⟨h1, h2⟩ := h
  rcases h2 with ⟨hv, _⟩ | ⟨g2, cap2, cur, hv, hbg, hg, hr⟩
  · cases hv
  · cases hv
    refine ⟨?_, hbg⟩
    by_cases hh : g < w.heap.size
    · exact hh
    · rw [Array.getElem?_eq_none (by omega)] at hg; cases hg
/-- the whole parts of the first k -/
def qL (T W : Nat) (wt : Nat → Nat) (k : Nat) : List Int := (List.range k).map fun i => (quo T W wt i : Int)
theorem qL_len (T W : Nat) (wt : Nat → Nat) (k : Nat) : (qL T W wt k).length = k := by simp [qL]
theorem qL_succ (T W : Nat) (wt : Nat → Nat) (k : Nat) : BI (qL T W wt (k + 1)) = BI (qL T W wt k) ++ [.int .i64 (quo T W wt k : Int)] := by
  unfold qL BI
  rw [List.range_succ, List.map_append, List.map_append]
  rfl
theorem qL_get (T W : Nat) (wt : Nat → Nat) (k i : Nat) (hi : i < k) : (qL T W wt k).getD i 0 = (quo T W wt i : Int) := by
  unfold qL
  simp [List.getD_eq_getElem?_getD, hi]
/-- while it deals: all, left, the whole parts of kW, the rests of kR -/
structure RSt (w wr : World) (T W : Nat) (wt : Nat → Nat) (bA bL : Nat) (sA : Bool) (dA : Nat → Nat) (kW kR kL gW capW gR capR : Nat) (sL : Bool) (dL : Nat → Nat) (R : List (Nat → Nat)) : Prop where
  A : LongAt wr bA sA dA
  L : LongAt wr bL sL dL
  Ld : Dig dL ∧ sgn sL (V dL 16) = (T : Int) - (sumN kL (quo T W wt) : Int)
  ow : wr.ownsRow w.heap.size 2 1 (.slice (some ⟨gW, 0, none⟩) kW capW) kW (BI (qL T W wt kW))
  or : wr.ownsRow w.heap.size 61 17 (.slice (some ⟨gR, 0, none⟩) kR capR) kR (lcs R)
  Rl : R.length = kR ∧ ∀ i, i < kR → Dig (R.getD i (fun _ => 0)) ∧ V (R.getD i (fun _ => 0)) 16 = rst T W wt i
  b : Below w.heap.size w wr
  d : bA ≠ bL ∧ bA ≠ gW ∧ bA ≠ gR ∧ bL ≠ gW ∧ bL ≠ gR ∧ gW ≠ gR ∧ w.heap.size ≤ bA ∧ w.heap.size ≤ bL
section
variable {w wr wx : World} {T W : Nat} {wt : Nat → Nat} {bA bL : Nat} {sA : Bool} {dA : Nat → Nat} {kW kR kL gW capW gR capR : Nat} {sL : Bool} {dL : Nat → Nat} {R : List (Nat → Nat)}
theorem RSt.keep (h : RSt w wr T W wt bA bL sA dA kW kR kL gW capW gR capR sL dL R) (hb : Below wr.heap.size wr wx) : RSt w wx T W wt bA bL sA dA kW kR kL gW capW gR capR sL dL R :=
  ⟨h.A.stay hb, h.L.stay hb, h.Ld, own_at h.ow (hb.block _ (own_lt h.ow).1), own_at h.or (hb.block _ (own_lt h.or).1), h.Rl, bnx h.b hb, h.d⟩
theorem RSt.addW {g2 cap2 : Nat} (h : RSt w wr T W wt bA bL sA dA kW kR kL gW capW gR capR sL dL R) (hgr : wr.grownBy wx (some gW)) (ho : wx.ownsRow w.heap.size 2 1 (.slice (some ⟨g2, 0, none⟩) (kW + 1) cap2) (kW + 1) (BI (qL T W wt kW) ++ [.int .i64 (quo T W wt kW : Int)])) (hg : g2 = gW ∨ wr.heap.size ≤ g2) :
    RSt w wx T W wt bA bL sA dA (kW + 1) kR kL g2 cap2 gR capR sL dL R := by
  obtain ⟨d1, d2, d3, d4, d5, d6, d7, d8⟩ := h.d
  have lA := h.A.lt; have lL := h.L.lt; have lW := own_lt h.ow; have lR := own_lt h.or
  refine ⟨(hgr.block bA lA (by simpa using d2)).trans h.A, (hgr.block bL lL (by simpa using d4)).trans h.L, h.Ld, ?_, own_at h.or (hgr.block gR lR.1 (by simpa using fun e => d6 e.symm)), h.Rl, h.b.grown hgr h.b.size (fun k hk => by cases hk; exact lW.2), ⟨d1, by omega, d3, by omega, d5, by omega, d7, d8⟩⟩
  rw [qL_succ]; exact ho
theorem RSt.addR {g2 cap2 : Nat} {r : Nat → Nat} (h : RSt w wr T W wt bA bL sA dA kW kR kL gW capW gR capR sL dL R) (hgr : wr.grownBy wx (some gR)) (ho : wx.ownsRow w.heap.size 61 17 (.slice (some ⟨g2, 0, none⟩) (kR + 1) cap2) (kR + 1) (lcs R ++ (LA false r).toList)) (hg : g2 = gR ∨ wr.heap.size ≤ g2)
    (hr : Dig r ∧ V r 16 = rst T W wt kR) : RSt w wx T W wt bA bL sA dA kW (kR + 1) kL gW capW g2 cap2 sL dL (R ++ [r]) := by
  obtain ⟨d1, d2, d3, d4, d5, d6, d7, d8⟩ := h.d
  have lA := h.A.lt; have lL := h.L.lt; have lW := own_lt h.ow; have lR := own_lt h.or
  refine ⟨(hgr.block bA lA (by simpa using d3)).trans h.A, (hgr.block bL lL (by simpa using d5)).trans h.L, h.Ld, own_at h.ow (hgr.block gW lW.1 (by simpa using d6)), ?_, ⟨by rw [List.length_append, h.Rl.1]; rfl, fun i hi => ?_⟩, h.b.grown hgr h.b.size (fun k hk => by cases hk; exact lR.2), ⟨d1, d2, by omega, d4, by omega, by omega, d7, d8⟩⟩
  · rw [lcs_append, lcs_one]; exact ho
  · by_cases c : i < kR
    · rw [List.getD_eq_getElem?_getD, List.getElem?_append_left (by rw [h.Rl.1]; exact c), ← List.getD_eq_getElem?_getD]
      exact h.Rl.2 i c
    · obtain rfl : i = kR := by omega
      rw [List.getD_eq_getElem?_getD, List.getElem?_append_right (by rw [h.Rl.1]; omega), h.Rl.1]
      simpa using hr
theorem RSt.setL {s2 : Bool} {d2 : Nat → Nat} (h : RSt w wr T W wt bA bL sA dA kW kR kL gW capW gR capR sL dL R) (hL : LongAt wx bL s2 d2) (hX : ∀ k, k ≠ bL → wx.heap[k]? = wr.heap[k]?) (hB : ∀ B a, Below B a wr → B ≤ bL → Below B a wx)
    (hd : Dig d2 ∧ sgn s2 (V d2 16) = (T : Int) - (sumN (kL + 1) (quo T W wt) : Int)) : RSt w wx T W wt bA bL sA dA kW kR (kL + 1) gW capW gR capR s2 d2 R := by
  obtain ⟨d1, d2', d3, d4, d5, d6, d7, d8⟩ := h.d
  exact ⟨(hX bA d1).trans h.A, hL, hd, own_at h.ow (hX gW (fun e => d4 e.symm)), own_at h.or (hX gR (fun e => d5 e.symm)), h.Rl, hB _ _ h.b d8, h.d⟩
end
/-- a store of a long number, all other blocks as they were -/
theorem LongAt.storeX {w : World} {b : Nat} {s : Bool} {d : Nat → Nat} (h : LongAt w b s d) (s2 : Bool) (d2 : Nat → Nat) : ∃ w2, (Instr.storeAt 61 (.pointer (some ⟨b, 0, none⟩)) (.agg (LA s2 d2))).run Tryz.prog w = .ok () w2 ∧ LongAt w2 b s2 d2 ∧ (∀ k, k ≠ b → w2.heap[k]? = w.heap[k]?) ∧ (∀ B a, Below B a w → B ≤ b → Below B a w2) := by
  refine ⟨w.setRow b (LA s2 d2), ?_, ?_, fun k hk => ?_, fun B a hb hB => below_setRowL hb b _ hB⟩
  · simp only [Instr.storeAt, Instr.sureAddr, Sem.run_bind, Sem.run_pure, Result.andThen_ok, run_storeVar_row w b 61 61 (LA s d) (LA s2 d2) h Tryz.info28 rfl (LA_one s2 d2)]
  · unfold LongAt at h ⊢
    simp [World.setRow, Array.getElem?_modify, h]
  · simp only [World.setRow, Array.getElem?_modify]
    rw [if_neg (fun e => hk e.symm)]
theorem wpList_store_longY {ops : Array Oper} {rest : List Oper} {o : Oper} {a : Act} {w : World} {Q : Exit → Act → World → Prop} (hgd : o.guard = none) (x y : Operand) (ho : o.op = .store 61 x y)
    {b : Nat} {s s2 : Bool} {d d2 : Nat → Nat} (hL : LongAt w b s d) (hx : a.eval x = .pointer (some ⟨b, 0, none⟩)) (hy : a.eval y = .agg (LA s2 d2))
    (h : ∀ w2, LongAt w2 b s2 d2 → (∀ k, k ≠ b → w2.heap[k]? = w.heap[k]?) → (∀ B a, Below B a w → B ≤ b → Below B a w2) → wpList Tryz.prog ops Q rest (a.put o.dst undef) w2) : wpList Tryz.prog ops Q (o :: rest) a w :=
  wpList_plain hgd fun _ hK => by
    obtain ⟨w2, h1, h2, h3, h4⟩ := hL.storeX s2 d2
    unfold Oper.wp execOp
    simp only [ho, hx, hy, Sem.run_bind, Sem.run_pure, Result.andThen_ok, h1]
    exact hK _ _ (h w2 h2 h3 h4)
theorem step_store_longY {ops : Array Oper} {o : Oper} {a : Act} {w : World} {K : Act → World → Prop} {Q : Exit → Act → World → Prop} {E : Prop} (hg : o.guard = none) (x y : Operand) (ho : o.op = .store 61 x y)
    {b : Nat} {s s2 : Bool} {d d2 : Nat → Nat} (hL : LongAt w b s d) (hx : a.eval x = .pointer (some ⟨b, 0, none⟩)) (hy : a.eval y = .agg (LA s2 d2))
    (hK : ∀ w2, LongAt w2 b s2 d2 → (∀ k, k ≠ b → w2.heap[k]? = w.heap[k]?) → (∀ B a, Below B a w → B ≤ b → Below B a w2) → K (a.put o.dst undef) w2) :
    if Region.wanted o (yielded ops a.tmps) = true then Oper.wp Tryz.prog o a w K Q else E := by
  have hw : Region.wanted o (yielded ops a.tmps) = true := by simp [Region.wanted, hg]
  rw [if_pos hw]
  obtain ⟨w2, h1, h2, h3, h4⟩ := hL.storeX s2 d2
  unfold Oper.wp execOp
  simp only [ho, hx, hy, Sem.run_bind, Sem.run_pure, Result.andThen_ok, h1]
  exact hK w2 h2 h3 h4
/-- nobody gets more than all -/
theorem shp_le0 {n T W : Nat} {wt : Nat → Nat} (hW : W = sumN n wt) (h0 : 0 < W) {i : Nat} (hi : i < n) : shp n T W wt i ≤ T := by
  have h1 := sumN_ge (quo T W wt) hi
  have h2 := (sum_quo (T := T) hW h0).1
  unfold shp
  split
  · rename_i c
    have : lft n T W wt = T - sumN n (quo T W wt) := rfl
    omega
  · omega
theorem guard_loadG {ops : Array Oper} {rest : List Oper} {a : Act} {w : World} {Q : Exit → Act → World → Prop} {dst : Option Tmp} {ty : TypeId} {pos : String} {after : Array Edge} {x : Operand} {g : Nat × Bool} (t : TypeId)
    (h : wpList Tryz.prog ops Q (⟨dst, .load t x, ty, pos, after, some g⟩ :: rest) a w) : wpList Tryz.prog ops Q (⟨dst, .load t x, ty, pos, after, some g⟩ :: rest) a w := h
theorem wpList_load_longG {ops : Array Oper} {rest : List Oper} {o : Oper} {a : Act} {w : World} {Q : Exit → Act → World → Prop} (hw : Region.wanted o (yielded ops a.tmps) = true) (x : Operand) (ho : o.op = .load 61 x)
    {b : Nat} {s : Bool} {d : Nat → Nat} (hL : LongAt w b s d) (hx : a.eval x = .pointer (some ⟨b, 0, none⟩)) (h : wpList Tryz.prog ops Q rest (a.put o.dst (.agg (LA s d))) w) : wpList Tryz.prog ops Q (o :: rest) a w :=
  wpList_step fun K hK => by
    rw [if_pos hw]
    unfold Oper.wp execOp
    simp only [ho, hx, Sem.run_bind, Sem.run_pure, Result.andThen_ok, hL.load]
    exact hK _ _ h
theorem rst_start {w w4 w5 w6 : World} {T W : Nat} {wt : Nat → Nat} {bA : Nat} {sA : Bool} {dA : Nat → Nat} {sL : Bool} {dL : Nat → Nat} (hA : LongAt w4 bA sA dA) (hb4 : Below w.heap.size w w4) (hbA : w.heap.size ≤ bA)
    (hb5 : Below ((w4.alloc (.cells #[] 2)).alloc (.cells #[] 61)).heap.size ((w4.alloc (.cells #[] 2)).alloc (.cells #[] 61)) w5) {Z : Obj}
    (hL6 : LongAt w6 w5.heap.size sL dL) (hX6 : ∀ k, k ≠ w5.heap.size → w6.heap[k]? = (w5.alloc Z).heap[k]?) (hB6 : ∀ B a, Below B a (w5.alloc Z) → B ≤ w5.heap.size → Below B a w6) (hd : Dig dL ∧ sgn sL (V dL 16) = (T : Int)) :
    RSt w w6 T W wt bA w5.heap.size sA dA 0 0 0 w4.heap.size 0 (w4.heap.size + 1) 0 sL dL [] := by
  have hs4 := hb4.size
  have ltA := hA.lt
  have e1 : (w4.alloc (.cells #[] 2)).heap.size = w4.heap.size + 1 := by simp
  have e2 : ((w4.alloc (.cells #[] 2)).alloc (.cells #[] 61)).heap.size = w4.heap.size + 1 + 1 := by simp
  have s5 := hb5.size
  rw [e2] at s5
  have k6 : ∀ k, k < w4.heap.size + 1 + 1 → w6.heap[k]? = ((w4.alloc (.cells #[] 2)).alloc (.cells #[] 61)).heap[k]? := by
    intro k hk
    rw [hX6 k (by omega), ← hb5.block k (by rw [e2]; exact hk)]
    simp only [World.alloc, Array.getElem?_push]
    rw [if_neg (by omega)]
  have r1 : (w4.alloc (.cells #[] 2)).ownsRow w.heap.size 2 1 (.slice (some ⟨w4.heap.size, 0, none⟩) 0 0) 0 [] := World.ownsRow_lit w4 #[] 0 hs4 (by simp) rfl
  have r2 : ((w4.alloc (.cells #[] 2)).alloc (.cells #[] 61)).ownsRow w.heap.size 61 17 (.slice (some ⟨w4.heap.size + 1, 0, none⟩) 0 0) 0 [] := by
    have := World.ownsRow_lit (base := w.heap.size) (e := 61) (size := 17) (w4.alloc (.cells #[] 2)) #[] 0 (by rw [e1]; omega) (by simp) rfl
    rw [e1] at this
    exact this
  have hk1 : ((w4.alloc (.cells #[] 2)).alloc (.cells #[] 61)).heap[w4.heap.size]? = (w4.alloc (.cells #[] 2)).heap[w4.heap.size]? := by
    rw [World.alloc, Array.getElem?_push, if_neg (by rw [e1]; omega)]
  refine ⟨?_, hL6, ⟨hd.1, by rw [hd.2, sumN_zero]; simp⟩, own_at r1 ((k6 _ (by omega)).trans hk1), own_at r2 (k6 _ (by omega)), ⟨rfl, fun i hi => by omega⟩, ?_, ⟨by omega, by omega, by omega, by omega, by omega, by omega, hbA, by omega⟩⟩
  · refine (k6 bA (by omega)).trans ?_
    have : LongAt ((w4.alloc (.cells #[] 2)).alloc (.cells #[] 61)) bA sA dA := hA.stay (bal (bal (Below.refl _ _) _) _)
    exact this
  · exact hB6 _ _ (bal (bnx (bnx hb4 (bal (bal (Below.refl _ _) _) _)) hb5) _) (by omega)
theorem fold_LA (d : Nat → Nat) : Array.foldl (fun (cs : Array Value) (x : Value × Nat) => cs.setIfInBounds x.snd x.fst) (#[.bool false, .int .u64 0, .int .u64 0, .int .u64 0, .int .u64 0, .int .u64 0, .int .u64 0, .int .u64 0, .int .u64 0, .int .u64 0, .int .u64 0, .int .u64 0, .int .u64 0, .int .u64 0, .int .u64 0, .int .u64 0, .int .u64 0] : Array Value) ((LA false d).zipIdx) 0 ((LA false d).size) = LA false d := by
  simp [LA]
theorem la_cell (w : World) (d : Nat → Nat) : ∀ j u, (LA false d).toList[j]? = some u → (w.alloc (.cells (LA false d) 61)).cell? ((⟨w.heap.size, 0, none⟩ : Addr).add j) = some u := by
  intro j u hj
  rw [Addr.add_mid, Nat.zero_add, cell_of_row _ w.heap.size j _ _ _ (heap_alloc_new w _), ← hj]
  simp
theorem Tryz.infoD : (Tryz.prog.info? 59).map (·.size) = some 16 := by kernel_rfl
/-- the digits of a long number, as one value -/
abbrev DA (d : Nat → Nat) : List Value := [.int .u64 (d 0 : Int), .int .u64 (d 1 : Int), .int .u64 (d 2 : Int), .int .u64 (d 3 : Int), .int .u64 (d 4 : Int), .int .u64 (d 5 : Int), .int .u64 (d 6 : Int), .int .u64 (d 7 : Int), .int .u64 (d 8 : Int), .int .u64 (d 9 : Int), .int .u64 (d 10 : Int), .int .u64 (d 11 : Int), .int .u64 (d 12 : Int), .int .u64 (d 13 : Int), .int .u64 (d 14 : Int), .int .u64 (d 15 : Int)]
theorem LongAt.digits {w : World} {b : Nat} {s : Bool} {d : Nat → Nat} (h : LongAt w b s d) : w.rangeAt b 1 (DA d) := by
  intro j v hj
  have h1 : (LA s d)[1 + j]? = some v := by
    rw [← hj, ← Array.getElem?_toList]
    show (.bool s :: DA d)[1 + j]? = _
    rw [Nat.add_comm, List.getElem?_cons_succ]
  rw [cell_of_row w b (1 + j) _ _ _ h, h1]
theorem neg_is {s : Bool} {d : Nat → Nat} {L : Int} (hd : Dig d) (h : sgn s (V d 16) = L) : IsL (.agg (LA (!s) d)) (-L) := by
  refine ⟨!s, d, rfl, hd, ?_⟩
  rw [← h]
  unfold sgn
  cases s <;> simp
set_option maxRecDepth 20000 in
theorem run_build_long (w : World) (d : Nat → Nat) : (Instr.buildSlice 66 1 #[(0, .agg (LA false d))]).run Tryz.prog w = .ok (.slice (some ⟨w.heap.size, 0, none⟩) 1 1) (w.alloc (.cells (LA false d) 61)) := by kernel_rfl
set_option maxRecDepth 20000 in
theorem wpList_build_long {ops : Array Oper} {rest : List Oper} {o : Oper} {a : Act} {w : World} {Q : Exit → Act → World → Prop} (hgd : o.guard = none) (x : Operand) (ho : o.op = .buildSlice 66 1 #[(0, x)])
    {d : Nat → Nat} (hx : a.eval x = .agg (LA false d)) (h : wpList Tryz.prog ops Q rest (a.put o.dst (.slice (some ⟨w.heap.size, 0, none⟩) 1 1)) (w.alloc (.cells (LA false d) 61))) : wpList Tryz.prog ops Q (o :: rest) a w :=
  wpList_plain hgd fun _ hK => by
    have hm : Array.map (fun p : Nat × Operand => (p.1, a.eval p.2)) #[(0, x)] = #[(0, .agg (LA false d))] := by simp [hx]
    unfold Oper.wp execOp
    simp only [ho, hm, Sem.run_bind, Sem.run_pure, run_build_long, Result.andThen_ok]
    exact hK _ _ h
theorem exec_load_long {o : Oper} {a : Act} {w : World} (x : Operand) (ho : o.op = .load 61 x) {b : Nat} {s : Bool} {d : Nat → Nat} (hx : a.eval x = .pointer (some ⟨b, 0, none⟩)) (hL : LongAt w b s d) : (execOp a.eval o).run Tryz.prog w = .ok (.value (.agg (LA s d))) w := by
  unfold execOp
  simp only [ho, hx, Sem.run_bind, Sem.run_pure, Result.andThen_ok, hL.load]
theorem exec_load_row {o : Oper} {a : Act} {w : World} (x : Operand) (ho : o.op = .load 61 x) {b k : Nat} {d : Nat → Nat} (hx : a.eval x = .pointer (some ⟨b, k, none⟩)) (hL : w.rangeAt b k (LA false d).toList) : (execOp a.eval o).run Tryz.prog w = .ok (.value (.agg (LA false d))) w := by
  unfold execOp
  have := run_loadAt_mid (P := Tryz.prog) w b k 61 (LA false d).toList _ hL Tryz.underlying61 rfl Tryz.info28
  simp only [ho, hx, Sem.run_bind, Sem.run_pure, Result.andThen_ok, this]
theorem guard_build {ops : Array Oper} {rest : List Oper} {a : Act} {w : World} {Q : Exit → Act → World → Prop} {dst : Option Tmp} {ty : TypeId} {pos : String} {after : Array Edge} {n : Nat} {xs : Array (Nat × Operand)} (t : TypeId)
    (h : wpList Tryz.prog ops Q (⟨dst, .buildSlice t n xs, ty, pos, after, none⟩ :: rest) a w) : wpList Tryz.prog ops Q (⟨dst, .buildSlice t n xs, ty, pos, after, none⟩ :: rest) a w := h
set_option maxRecDepth 20000 in
theorem run_build_fields (w : World) (s : Bool) (d : Nat → Nat) : (Instr.build 61 #[(0, .bool s), (1, .agg (DA d).toArray)]).run Tryz.prog w = .ok (.agg (LA s d)) w := by kernel_rfl
theorem guard_fields {ops : Array Oper} {rest : List Oper} {a : Act} {w : World} {Q : Exit → Act → World → Prop} {dst : Option Tmp} {ty : TypeId} {pos : String} {after : Array Edge} {xs : Array (Nat × Operand)} (t : TypeId)
    (h : wpList Tryz.prog ops Q (⟨dst, .build t xs, ty, pos, after, none⟩ :: rest) a w) : wpList Tryz.prog ops Q (⟨dst, .build t xs, ty, pos, after, none⟩ :: rest) a w := h
theorem wpList_fields {ops : Array Oper} {rest : List Oper} {o : Oper} {a : Act} {w : World} {Q : Exit → Act → World → Prop} (hgd : o.guard = none) (x y : Operand) (ho : o.op = .build 61 #[(0, x), (1, y)])
    {s : Bool} {d : Nat → Nat} (hx : a.eval x = .bool s) (hy : a.eval y = .agg (DA d).toArray) (h : wpList Tryz.prog ops Q rest (a.put o.dst (.agg (LA s d))) w) : wpList Tryz.prog ops Q (o :: rest) a w :=
  wpList_plain hgd fun _ hK => by
    have hm : Array.map (fun p : Nat × Operand => (p.1, a.eval p.2)) #[(0, x), (1, y)] = #[(0, .bool s), (1, .agg (DA d).toArray)] := by simp [hx, hy]
    unfold Oper.wp execOp
    simp only [ho, hm, Sem.run_bind, Sem.run_pure, run_build_fields, Result.andThen_ok]
    exact hK _ _ h
theorem cmpV_said (a b : Nat) : (0 < cmpV a b ↔ b < a) ∧ (cmpV a b = 0 ↔ a = b) := by
  unfold cmpV
  by_cases h1 : a < b
  · rw [if_pos h1]; constructor <;> constructor <;> intro h <;> omega
  · rw [if_neg h1]
    by_cases h2 : b < a
    · rw [if_pos h2]; constructor <;> constructor <;> intro h <;> omega
    · rw [if_neg h2]; constructor <;> constructor <;> intro h <;> omega
theorem RSt.other {w wr wx : World} {T W : Nat} {wt : Nat → Nat} {bA bL : Nat} {sA : Bool} {dA : Nat → Nat} {kW kR kL gW capW gR capR : Nat} {sL : Bool} {dL : Nat → Nat} {R : List (Nat → Nat)} {g : Nat} (h : RSt w wr T W wt bA bL sA dA kW kR kL gW capW gR capR sL dL R) (hgr : wr.grownBy wx (some g)) (hg : bA ≠ g ∧ bL ≠ g ∧ gW ≠ g ∧ gR ≠ g ∧ w.heap.size ≤ g) : RSt w wx T W wt bA bL sA dA kW kR kL gW capW gR capR sL dL R := by
  obtain ⟨g1, g2, g3, g4, g5⟩ := hg
  exact ⟨(hgr.block bA h.A.lt (by simpa using g1)).trans h.A, (hgr.block bL h.L.lt (by simpa using g2)).trans h.L, h.Ld, own_at h.ow (hgr.block gW (own_lt h.ow).1 (by simpa using g3)), own_at h.or (hgr.block gR (own_lt h.or).1 (by simpa using g4)), h.Rl, h.b.grown hgr h.b.size (fun k hk => by cases hk; exact g5), h.d⟩
theorem RSt.row {w wr : World} {T W : Nat} {wt : Nat → Nat} {bA bL : Nat} {sA : Bool} {dA : Nat → Nat} {kW kR kL gW capW gR capR : Nat} {sL : Bool} {dL : Nat → Nat} {R : List (Nat → Nat)} (h : RSt w wr T W wt bA bL sA dA kW kR kL gW capW gR capR sL dL R) (j : Nat) (hj : j < kR) : wr.rangeAt gR (j * 17) (LA false (R.getD j (fun _ => 0))).toList := by
  intro q v hq
  have hq17 : q < 17 := by
    by_cases c : q < 17
    · exact c
    · rw [List.getElem?_eq_none (by show 17 ≤ q; omega)] at hq; cases hq
  have hc := World.ownsRow.cellAt h.or (j * 17 + q) (by omega)
  rw [hc, lcs_get R j (by rw [h.Rl.1]; exact hj) q hq17, ← hq]
  simp [Array.getElem?_toList]
theorem RSt.whole {w wr : World} {T W : Nat} {wt : Nat → Nat} {bA bL : Nat} {sA : Bool} {dA : Nat → Nat} {kW kR kL gW capW gR capR : Nat} {sL : Bool} {dL : Nat → Nat} {R : List (Nat → Nat)} (h : RSt w wr T W wt bA bL sA dA kW kR kL gW capW gR capR sL dL R) (j : Nat) (hj : j < kW) : wr.cell? ⟨gW, j, none⟩ = some (.int .i64 (quo T W wt j : Int)) := by
  rw [World.ownsRow.cellAt h.ow j (by omega), BI_get _ j (by rw [qL_len]; exact hj), qL_get T W wt kW j hj]
/-- the parts of the first i -/
def shL (n T W : Nat) (wt : Nat → Nat) (i : Nat) : List Int := (List.range i).map fun j => (shp n T W wt j : Int)
theorem shL_succ (n T W : Nat) (wt : Nat → Nat) (i : Nat) : BI (shL n T W wt (i + 1)) = BI (shL n T W wt i) ++ [.int .i64 (shp n T W wt i : Int)] := by
  unfold shL BI
  rw [List.range_succ, List.map_append, List.map_append]
  rfl
theorem shp_in {l : List Int} {n T W : Nat} (h : Deal l n T W) : ∀ x ∈ shpL l n T W, inI x := by
  intro x hx
  unfold shpL at hx
  rw [List.mem_map] at hx
  obtain ⟨i, hi, rfl⟩ := hx
  have := shp_le0 (T := T) h.hW h.W0 (List.mem_range.1 hi)
  have := h.T1
  unfold inI
  omega
end Go.Proofs.YtblfmfanfpohbaaGreat
