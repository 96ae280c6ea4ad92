/- Own texts, joined: Sc2, Sc3. -/
import Derived.Test.YtfnkhpijcbpeoaaDoorK10
import Derived.Test.YtfnkhpijcbpeoaaDoorK06
import Derived.Deep.RegionWith
namespace Go.Proofs.YtfnkhpijcbpeoaaDoor
open Go.ChangeShapes Go.WideShapes Go.ChangeAt Go.RowKit
set_option linter.unusedVariables false
theorem each_stops (n : Nat) (hn : 1 ≤ n) (l : List Nat) (m k : Nat) (a : Option Addr) (cap : Nat) (w W : World) (hm : l.length = m) (hb : Bytes w a l) (hcap : m ≤ cap) (hl : m ≤ 140737488351232) (ht : Tab w) (hk0 : w.heap.size ≤ k) (hk : W.heap[k]? = some (.cells #[.slice a m cap] 22)) (hbe : Below w.heap.size w W) :
    SeqW Fence.wide n Tryd.prog 65 #[.pointer (some ⟨k, 0, none⟩)] itV (KB w.heap.size k) (fun pre x W1 => (pre ++ [x]).map It.fm <+: scanL l ∧ Own W1 w.heap.size x.bv x.fm.body) (fun xs => xs.map It.fm = scanL l) (fun pre => pre.map It.fm <+: scanL l) W :=
  fun lp J Jx V hV hJ _ hY h0 => each1_in n hn l m k a cap w hm hb hcap hl ht lp J Jx V hk0 ((hV.block k (lt_of_heap hk)).trans hk) (hbe.trans (hV.mono hbe.size)) hJ hY h0
/-- a placed frame's value -/
abbrev PlV (p z k s : Int) (bv : Value) : Value := .agg #[.int .i64 p, .int .i64 z, .int .i64 k, .int .i64 s, bv]
def PlBox (w : World) (b : Nat) (p z k s : Int) (bv : Value) : Prop := w.heap[b]? = some (.cells #[.int .i64 p, .int .i64 z, .int .i64 k, .int .i64 s, bv] 79)
theorem PlBox.cells {w : World} {b : Nat} {p z k s : Int} {bv : Value} (h : PlBox w b p z k s bv) : w.cell? ⟨b, 0, none⟩ = some (.int .i64 p) ∧ w.cell? ⟨b, 1, none⟩ = some (.int .i64 z) ∧ w.cell? ⟨b, 2, none⟩ = some (.int .i64 k) ∧ w.cell? ⟨b, 3, none⟩ = some (.int .i64 s) ∧ w.cell? ⟨b, 4, none⟩ = some bv :=
  ⟨by rw [cell_of_row _ _ 0 _ _ _ h]; rfl, by rw [cell_of_row _ _ 1 _ _ _ h]; rfl, by rw [cell_of_row _ _ 2 _ _ _ h]; rfl, by rw [cell_of_row _ _ 3 _ _ _ h]; rfl, by rw [cell_of_row _ _ 4 _ _ _ h]; rfl⟩
theorem PlBox.loadVar {w : World} {b : Nat} {p z k s : Int} {bv : Value} (h : PlBox w b p z k s bv) : (Go.loadVar 79 ⟨b, 0, none⟩).run Tryd.prog w = .ok (PlV p z k s bv) w := by
  obtain ⟨h0, h1, h2, h3, h4⟩ := h.cells
  simp [go_sem, h0, h1, h2, h3, h4]
theorem results_pl {fn : Func} {p : Tmp} (h : fn.results = #[.cell p 79]) (tmps : Array Value) (w : World) (b : Nat) {x z k s : Int} {bv : Value} (hp : tmps.getD p undef = .pointer (some ⟨b, 0, none⟩)) (hl : PlBox w b x z k s bv) :
    (results fn tmps).run Tryd.prog w = .ok (PlV x z k s bv) w := by
  simp only [Array.getD_eq_getD_getElem?] at hp
  simp [results, h, hp, asAddr, hl.loadVar]
set_option maxRecDepth 100000 in
set_option maxHeartbeats 4000000 in
theorem placed_any (p k s : Int) (a : Option Addr) (n c : Nat) (w : World) (hn : n ≤ 16384) :
    Calls Tryd.prog 47 #[.int .i64 p, FrV k s (.slice a n c)] w fun e w' => e = .returned (PlV p ((n : Int) + 20) k s (.slice a n c)) ∧ Below w.heap.size w w' := by
  have hnI : (n : Int) ≤ 16384 := by omega
  have HFS : Hid (fsz (n : Int) = (n : Int) + 20) := by show _ = _; unfold fsz; rw [if_neg (by omega)]
  go_enter Tryd.func47, Tryd.ntmps47
  go_wp2
  go_region_with (go_at_call 52; refine (fsize_any (n : Int) _).mono ?_; rw [HFS.out]; rintro e w2 ⟨rfl, rfl⟩)
  all_goals go_wp2
  all_goals
    refine bodyPost_ret (results_pl rfl _ _ (w.heap.size + 1) rfl (?_ : PlBox _ _ p ((n : Int) + 20) k s (.slice a n c))) rfl ?_
    · have h := heap_alloc_new (w.alloc (.cells #[.int .i64 k, .int .i64 s, .slice a n c] 49)) (.cells #[.int .i64 p, .int .i64 ((n : Int) + 20), .int .i64 k, .int .i64 s, .slice a n c] 79)
      rw [World.size_alloc] at h
      exact h
    · exact ⟨rfl, (((Below.refl _ _).alloc (Nat.le_refl _) _).alloc (by simp) _).drew⟩
end Go.Proofs.YtfnkhpijcbpeoaaDoor
namespace Go.Proofs.YtfnkhpijcbpeoaaDoor
open Go.ChangeShapes Go.WideShapes Go.ChangeAt Go.RowKit
set_option linter.unusedVariables false
/-- the cells of placed frames -/
def pflt : List It → List Value
  | [] => []
  | x :: r => .int .i64 (x.fm.pos : Int) :: .int .i64 ((x.fm.body.length : Int) + 20) :: .int .i64 (x.fm.kind : Int) :: .int .i64 (x.fm.seq : Int) :: x.bv :: pflt r
theorem pflt_append : ∀ (L M : List It), pflt (L ++ M) = pflt L ++ pflt M
  | [], M => rfl
  | p :: r, M => by simp only [List.cons_append, pflt, pflt_append r M]
theorem pflt_length : ∀ (L : List It), (pflt L).length = L.length * 5
  | [] => rfl
  | p :: r => by simp only [pflt, List.length_cons, pflt_length r]; omega
/-- where the last of them ends; z, if there is none -/
def endZ (z : Nat) (L : List Fm) : Nat := match L.getLast? with
  | none => z
  | some f => f.pos + f.body.length + 20
abbrev endF (L : List Fm) : Nat := endZ 0 L
theorem endF_snoc (z : Nat) (L : List Fm) (f : Fm) : endZ z (L ++ [f]) = f.pos + f.body.length + 20 := by simp [endZ]
theorem cells_kept {X Y : World} {row : Option Nat} {b : Nat} {c : Array Value} {t : TypeId} {m : Nat × Nat} (h : X.heap[b]? = some (.cells c t m)) (hg : X.grownBy Y row) (hr : ∀ r, row = some r → ∃ o : Obj, X.heap[r]? = some o ∧ o.isCells = false) : Y.heap[b]? = some (.cells c t m) := by
  refine (hg.block b (lt_of_heap h) (fun e => ?_)).trans h
  obtain ⟨o, h1, h2⟩ := hr b e.symm
  rw [h] at h1
  cases h1
  cases h2
theorem row_kept {X Y : World} {row : Option Nat} {base size n : Nat} {e : TypeId} {v : Value} {xs : List Value} (h : X.ownsRow base e size v n xs) (hg : X.grownBy Y row) (hr : ∀ r, row = some r → ∃ o : Obj, X.heap[r]? = some o ∧ o.isCells = false) : Y.ownsRow base e size v n xs := by
  refine ⟨h.1, ?_⟩
  rcases h.2 with h2 | ⟨g, cap, cur, h3, h4, h5, h6⟩
  · exact .inl h2
  · exact .inr ⟨g, cap, cur, h3, h4, cells_kept h5 hg hr, h6⟩
/-- the variables of a loop over frames: the placed ones (box p), where they end (box q), the text's box k; their bodies -/
structure AI (w : World) (p q k z : Nat) (pre : List It) (W : World) : Prop where
  row : ∃ v, Boxed W p 41 v ∧ W.ownsRow w.heap.size 79 5 v pre.length (pflt pre)
  fin : Boxed W q 3 (.int .i64 (endZ z (pre.map It.fm) : Int))
  box : ∃ c, W.heap[k]? = some (.cells c 22)
  byt : ∀ x ∈ pre, Own W w.heap.size x.bv x.fm.body
  bel : Below w.heap.size w W
theorem AI.own (w : World) (p q k z B : Nat) (hB : w.heap.size ≤ B) : OwnFrom B (AI w p q k z) := by
  rintro pre X Y row ⟨⟨v, h1, h2⟩, h3, ⟨c, h6⟩, h4, h5⟩ hg hr
  have hr2 : ∀ r, row = some r → ∃ o : Obj, X.heap[r]? = some o ∧ o.isCells = false := fun r e => (hr r e).2
  refine ⟨⟨v, cells_kept h1 hg hr2, row_kept h2 hg hr2⟩, cells_kept h3 hg hr2, ⟨c, cells_kept h6 hg hr2⟩, fun x hx => ⟨(h4 x hx).1, row_kept (h4 x hx).2 hg hr2⟩, ?_⟩
  exact h5.grown hg h5.size (fun r e => Nat.le_trans hB (hr r e).1)
theorem AI.below {w W W' : World} {p q k z : Nat} {pre : List It} (h : AI w p q k z pre W) (hb : Below W.heap.size W W') : AI w p q k z pre W' := by
  obtain ⟨⟨v, h1, h2⟩, h3, ⟨c, h6⟩, h4, h5⟩ := h
  exact ⟨⟨v, (hb.block _ h1.lt).trans h1, own_below h2 hb⟩, (hb.block _ h3.lt).trans h3, ⟨c, (hb.block _ (lt_of_heap h6)).trans h6⟩, fun x hx => ⟨(h4 x hx).1, own_below (h4 x hx).2 hb⟩, h5.trans (hb.mono h5.size)⟩
theorem keeps_below {W W' : World} (h : Below W.heap.size W W') : KeepsOthers W W' := ⟨h.size, fun k o hk _ => (h.block k (lt_of_heap hk)).trans hk⟩
theorem KB.below {n₀ k : Nat} {W W' : World} (hn : n₀ ≤ W.heap.size) (h : Below W.heap.size W W') : KB n₀ k W W' := ⟨h.mono hn, fun hk => h.block k hk⟩
/-- another block, of another type, behind an append and two stores -/
theorem far_kept {W4 w5 : World} {base n b p q T : Nat} {v v' u : Value} {xs : List Value} {c : Array Value} {m : Nat × Nat} (ho : W4.ownsRow base 79 5 v n xs) (hg : W4.grownBy w5 v.ownBlock) (h : W4.heap[b]? = some (.cells c T m)) (hT : T ≠ 79) (h1 : b ≠ p) (h2 : b ≠ q) :
    ((w5.setCell ⟨p, 0, none⟩ v').setCell ⟨q, 0, none⟩ u).heap[b]? = some (.cells c T m) := by
  have h5 : w5.heap[b]? = some (.cells c T m) := by
    rw [hg.block b (lt_of_heap h) (fun e => ?_)]
    · exact h
    · rcases ho.2 with ⟨rfl, _⟩ | ⟨g, cap, cur, rfl, _, hh, _⟩
      · simp [Value.ownBlock] at e
      · have : b = g := by simpa [Value.ownBlock] using e
        subst this
        rw [h] at hh
        cases hh
        exact hT rfl
  rw [heap_setCell_other _ ⟨q, 0, none⟩ b u h2, heap_setCell_other _ ⟨p, 0, none⟩ b v' h1]
  exact h5
/-- the end of a round: the row has grown by an item, two boxes are written anew -/
theorem AI.step {w W W4 w5 : World} {p q k z : Nat} {pre : List It} {x : It} {v v' : Value} {e : Int} (h : AI w p q k z pre W) (hb4 : Below W.heap.size W W4) (hx : Own W4 w.heap.size x.bv x.fm.body)
    (hv : Boxed W p 41 v) (ho : W4.ownsRow w.heap.size 79 5 v pre.length (pflt pre)) (hg : W4.grownBy w5 v.ownBlock) (ho5 : w5.ownsRow w.heap.size 79 5 v' (pre.length + 1) (pflt pre ++ pflt [x]))
    (hp : w.heap.size ≤ p) (hq : w.heap.size ≤ q) (hpq : p ≠ q) (hkp : k ≠ p) (hkq : k ≠ q) (he : e = (endZ z ((pre ++ [x]).map It.fm) : Int)) (B : Nat) :
    KeepsFrom B W ((w5.setCell ⟨p, 0, none⟩ v').setCell ⟨q, 0, none⟩ (.int .i64 e)) ∧ KB w.heap.size k W ((w5.setCell ⟨p, 0, none⟩ v').setCell ⟨q, 0, none⟩ (.int .i64 e)) ∧ AI w p q k z (pre ++ [x]) ((w5.setCell ⟨p, 0, none⟩ v').setCell ⟨q, 0, none⟩ (.int .i64 e)) := by
  subst he
  have h4 : AI w p q k z pre W4 := h.below hb4
  obtain ⟨_, h3, ⟨c, h6⟩, hby, h5⟩ := h4
  have hpW4 : Boxed W4 p 41 v := (hb4.block _ hv.lt).trans hv
  have hB5 : Below w.heap.size w w5 := h5.grown hg h5.size (fun r e => (ho.lt r e).1)
  have hp5 : Boxed w5 p 41 v := hpW4.kept hg (fun e => Boxed.not_row hpW4 (by decide) ho e)
  have hq5 : Boxed w5 q 3 (.int .i64 (endZ z (pre.map It.fm) : Int)) := Boxed.kept h3 hg (fun e => Boxed.not_row h3 (by decide) ho e)
  have bytes5 : ∀ (bv : Value) (l : List Nat), Own W4 w.heap.size bv l → Own ((w5.setCell ⟨p, 0, none⟩ v').setCell ⟨q, 0, none⟩ (.int .i64 (endZ z ((pre ++ [x]).map It.fm) : Int))) w.heap.size bv l := by
    intro bv l hl
    refine ⟨hl.1, hl.2.1, ?_⟩
    rcases hl.2.2 with h2 | ⟨g, cap, cur, g3, g4, g5, g6⟩
    · exact .inl h2
    · refine .inr ⟨g, cap, cur, g3, g4, far_kept ho hg g5 (by decide) ?_ ?_, g6⟩
      · rintro rfl
        have := hpW4.symm.trans g5
        cases this
      · rintro rfl
        have := (show W4.heap[g]? = _ from h3).symm.trans g5
        cases this
  have row5 : ((w5.setCell ⟨p, 0, none⟩ v').setCell ⟨q, 0, none⟩ (.int .i64 (endZ z ((pre ++ [x]).map It.fm) : Int))).ownsRow w.heap.size 79 5 v' (pre.length + 1) (pflt pre ++ pflt [x]) := by
    refine ⟨ho5.1, ?_⟩
    rcases ho5.2 with h2 | ⟨g, cap, cur, g3, g4, g5, g6⟩
    · exact .inl h2
    · refine .inr ⟨g, cap, cur, g3, g4, ?_, g6⟩
      rw [heap_setCell_other _ ⟨q, 0, none⟩ g _ ?_, heap_setCell_other _ ⟨p, 0, none⟩ g _ ?_]
      · exact g5
      · rintro rfl
        have := (show w5.heap[g]? = _ from hp5).symm.trans g5
        cases this
      · rintro rfl
        have := (show w5.heap[g]? = _ from hq5).symm.trans g5
        cases this
  have hcell : ∀ (r : Nat) (o : Obj), v.ownBlock = some r → W4.heap[r]? = some o → o.isCells = true := by
    intro r o hr ho2
    rcases ho.2 with ⟨rfl, _⟩ | ⟨g, cap, cur, rfl, _, hh, _⟩
    · simp [Value.ownBlock] at hr
    · have : g = r := by simpa [Value.ownBlock] using hr
      subst this
      rw [hh] at ho2
      cases ho2
      rfl
  refine ⟨?_, ⟨?_, fun _ => ?_⟩, ⟨⟨v', (Boxed.set v' hp5).other hpq _, by rw [List.length_append, pflt_append]; exact row5⟩, Boxed.set _ (hq5.other (Ne.symm hpq) _), ⟨c, far_kept ho hg h6 (by decide) hkp hkq⟩, ?_, ?_⟩⟩
  · exact ((keeps_below hb4).trans ((KeepsOthers.of_grownBy hg hcell).trans ((KeepsOthers.setCell _ _ _).trans (KeepsOthers.setCell _ _ _)))).from B
  · exact ((((hb4.mono h.bel.size).grown hg h5.size (fun r e => (ho.lt r e).1)).setCell (p := ⟨p, 0, none⟩) hp _).setCell (p := ⟨q, 0, none⟩) hq _)
  · obtain ⟨c2, h7⟩ := h.box
    have h8 := (hb4.block k (lt_of_heap h7)).trans h7
    rw [far_kept ho hg h8 (by decide) hkp hkq, h7]
  · intro y hy
    rcases List.mem_append.1 hy with hy | hy
    · exact bytes5 _ _ (hby y hy)
    · simp at hy
      subst hy
      exact bytes5 _ _ hx
  · exact (hB5.setCell (p := ⟨p, 0, none⟩) hp _).setCell (p := ⟨q, 0, none⟩) hq _
end Go.Proofs.YtfnkhpijcbpeoaaDoor
