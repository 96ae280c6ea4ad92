/- Own texts, joined: Od25, Od26. -/
import Derived.Test.YtmjppeljpifjpaaGreatK35
namespace Go.Proofs.YtmjppeljpifjpaaGreat
open Go.ChangeShapes Go.WideShapes Go.ChangeAt Go.RowKit
set_option linter.unusedVariables false
set_option linter.unusedSimpArgs false
theorem t3_new (w : World) (s : St) (e : Ev) (v : Value) : ∃ W, ((w.alloc (.cells (stA s v) 25)).alloc (.cells (evA e) 37)).alloc (.cells #[.int .i64 0, .int .i64 0, .int .i64 0, .int .i64 0, .int .i64 0, .slice none 0 0, .int .i64 0, .int .i64 0, .int .i64 0, .int .i64 0, .int .i64 0, .string ⟨#[]⟩] 25) = W ∧ StAt W w.heap.size s v ∧ EvAt W (w.heap.size + 1) e ∧ StAt W (w.heap.size + 2) zeroS (.slice none 0 0) ∧ Below w.heap.size w W := by
  refine ⟨_, rfl, ?_, ?_, ?_, (((Below.refl _ _).alloc (Nat.le_refl _) _).alloc (by simp) _).alloc (by simp; omega) _⟩
  · exact ((StAt.new w s v).after ((Below.refl _ _).alloc (Nat.le_refl _) _)).after ((Below.refl _ _).alloc (Nat.le_refl _) _)
  · have := (evAt_new (w.alloc (.cells (stA s v) 25)) e).after ((Below.refl _ _).alloc (Nat.le_refl _) (.cells (stA zeroS (.slice none 0 0)) 25))
    simp only [World.alloc, Array.size_push] at this
    exact this
  · have := StAt.new ((w.alloc (.cells (stA s v) 25)).alloc (.cells (evA e) 37)) zeroS (.slice none 0 0)
    simp only [World.alloc, Array.size_push] at this
    exact this
/-- the state's lines are the call's own from now on -/
theorem S3.own {w x y : World} {s : St} {e : Ev} {v v1 : Value} (st : StAt x w.heap.size s v) (ev : EvAt x (w.heap.size + 1) e) (res : StAt x (w.heap.size + 2) zeroS (.slice none 0 0)) (hb : Below w.heap.size w x) (hy : Below x.heap.size x y) (ho : OwnL y w.heap.size v1 s.lines) : S3 w w.heap.size (.slice none 0 0) s e v1 (y.setCell ⟨w.heap.size, 5, none⟩ v1) := by
  have st2 := st.after hy
  have ev2 := ev.after hy
  have res2 := res.after hy
  have hb2 := hb.trans (hy.mono hb.size)
  refine ⟨St.setTo st2 5 v1 rfl, ?_, ?_, ho.setOther _ _ (own_st_ne ho st2), grown_set (below_grown hb2 _) _ _ (Nat.le_refl _)⟩
  · exact (heap_setCell_other y ⟨w.heap.size, 5, none⟩ (w.heap.size + 1) v1 (by show w.heap.size + 1 ≠ w.heap.size; omega)).trans ev2
  · exact (heap_setCell_other y ⟨w.heap.size, 5, none⟩ (w.heap.size + 2) v1 (by show w.heap.size + 2 ≠ w.heap.size; omega)).trans res2
/-- what Apply answers -/
def ApplyPost (s' : St) (r0 : Int) (w : World) (r : Ending) (w' : World) : Prop := ∃ a n c, r = .returned (.tuple #[.agg (stA s' (.slice a n c)), .int .i64 r0]) ∧ OwnL w' w.heap.size (.slice a n c) s'.lines ∧ Below w.heap.size w w'
set_option maxRecDepth 20000 in
set_option maxHeartbeats 8000000 in
theorem apply_any (s : St) (e : Ev) (a : Option Addr) (n cap : Nat) (w : World) (hn : s.lines.length = n) (hl : Lns w a s.lines) (hm : n * 32 ≤ 140737488351232) :
    Calls Tryz.prog 24 #[.agg (stA s (.slice a n cap)), .agg (evA e)] w fun r w' => ApplyPost (nextS s e) (judS s e) w r w' := by
  obtain ⟨W, hW, h1, h2, h3, h4⟩ := t3_new w s e (.slice a n cap)
  have HN : Hid (s.lines.length = n) := hn
  have HW : Hid (StAt W w.heap.size s (.slice a n cap) ∧ EvAt W (w.heap.size + 1) e ∧ StAt W (w.heap.size + 2) zeroS (.slice none 0 0) ∧ Below w.heap.size w W) := ⟨h1, h2, h3, h4⟩
  have HL : Hid (Lns W a s.lines) := hl.keep h4
  have c5 := h1.cell 5 (.slice a n cap) rfl
  clear hn hl h1 h2 h3 h4
  go_enter Tryz.func24, Tryz.ntmps24
  go_wp2_with (go_at_call 48; refine (lnclone_any s.lines a n cap _ HN.out HL.out hm).mono ?_; rintro _ y1 ⟨a1, c1, rfl, ho1, hb1⟩; have k5 := (HW.out.1.after hb1).cell 5 (.slice a n cap) rfl; have kf := (HW.out.1.after hb1).froz 5; have HS : Hid (S3 w w.heap.size (.slice none 0 0) s e (.slice a1 n c1) (y1.setCell ⟨w.heap.size, 5, none⟩ (.slice a1 n c1))) := S3.own HW.out.1 HW.out.2.1 HW.out.2.2.1 HW.out.2.2.2 hb1 (ho1.mono HW.out.2.2.2.size); clear ho1 hb1)
  obtain ⟨X, hX⟩ : ∃ X, y1.setCell ⟨w.heap.size, 5, none⟩ (.slice a1 n c1) = X := ⟨_, rfl⟩
  rw [hX] at HS ⊢
  clear hX k5 kf
  have HSd : Hid (S3 w w.heap.size (.slice none 0 0) s e (.slice a1 n c1) X.drew) := HS.out.drew
  refine wp_region_held (S := fun y => StAt y w.heap.size s (.slice a1 n c1) ∧ EvAt y (w.heap.size + 1) e) (by kernel_rfl) ?_
  change wpAnyH _ _ _ _ _ _ _ _ (World.drew _)
  have hS0 : StAt X.drew w.heap.size s (.slice a1 n c1) ∧ EvAt X.drew (w.heap.size + 1) e := ⟨HSd.out.st, HSd.out.ev⟩
  refine wpAnyH_take (i := 1) (oi := { dst := some 11, op := Op.load 25 (Operand.tmp 2), type := 25, pos := "order.go:46", after := #[], guard := none }) (v := .agg (stA s (.slice a1 n c1))) rfl (by kernel_rfl) (by kernel_rfl) (by kernel_rfl) (fun _ _ _ h => h) (Or.inl ⟨by rfl, fun y hy => exec_load_st (.tmp 2) rfl rfl hy.1⟩) hS0 ?_
  simp only [Act.put, List.setIfInBounds_toArray, List.set_cons_zero, List.set_cons_succ]
  refine wpAnyH_take (i := 2) (oi := { dst := some 12, op := Op.load 37 (Operand.tmp 3), type := 37, pos := "order.go:46", after := #[], guard := none }) (v := .agg (evA e)) rfl (by kernel_rfl) (by kernel_rfl) (by kernel_rfl) (fun _ _ _ h => h) (Or.inl ⟨by rfl, fun y hy => exec_load_ev (.tmp 3) rfl rfl hy.2⟩) hS0 ?_
  simp only [Act.put, List.setIfInBounds_toArray, List.set_cons_zero, List.set_cons_succ]
  refine wpAnyH_ready (rs := [0]) (by kernel_rfl) (by simp) ?_
  refine AllReadyH.cons (o := { dst := some 10, op := Op.call { callee := Callee.value (Operand.func 44), args := #[], argTypes := #[] }, type := 63, pos := "order.go:46", after := #[], guard := none }) rfl (fun K hK => ?_) AllReadyH.nil
  go_simp
  refine (deeds_any _).mono ?_
  rintro _ x1 ⟨b, rfl, hd1, hb1⟩
  have HD1 : Hid (DeedsAt X.drew.heap.size x1 b) := hd1
  have HS1 : Hid (S3 w w.heap.size (.slice none 0 0) s e (.slice a1 n c1) x1) := HSd.out.keep hb1
  clear hd1 hb1
  (refine hK _ _ ⟨HS1.out.st, HS1.out.ev⟩ ?_; clear hK K; intro _)
  try simp only [Act.put, List.setIfInBounds_toArray, List.set_cons_zero, List.set_cons_succ]
  refine wpAnyH_ready (rs := [3]) (by kernel_rfl) (by simp) ?_
  refine AllReadyH.cons (o := { dst := some 13, op := Op.call { callee := Callee.value (Operand.func 49), args := #[Operand.tmp 10, Operand.tmp 11, Operand.tmp 12], argTypes := #[63, 25, 37] }, type := 41, pos := "order.go:46", after := #[{ on := 0, ground := Ground.data }, { on := 1, ground := Ground.data }, { on := 2, ground := Ground.data }, { on := 0, ground := Ground.chain }], guard := none }) rfl (fun K hK => ?_) AllReadyH.nil
  go_simp
  refine (next_any _ b s e a1 n c1 w.heap.size _ HD1.out HS1.out.row HS1.out.gr.size).mono ?_
  rintro _ x2 ⟨a2, n2, c2, rfl, ho2, hg2⟩
  have hst2 : StAt x2 w.heap.size s (.slice a1 n c1) := (hg2.block _ HS1.out.st.lt (own_st_ne HS1.out.row HS1.out.st)).trans HS1.out.st
  have hev2 : EvAt x2 (w.heap.size + 1) e := (hg2.block _ HS1.out.ev.lt (own_ev_ne HS1.out.row HS1.out.ev)).trans HS1.out.ev
  have hres2 : StAt x2 (w.heap.size + 2) zeroS (.slice none 0 0) := (hg2.block _ HS1.out.res.lt (own_st_ne HS1.out.row HS1.out.res)).trans HS1.out.res
  have hgr := HS1.out.gr
  have hbel : Below w.heap.size w x2 := ⟨hg2.os.trans hgr.os, hg2.tape.trans hgr.tape, hg2.output.trans hgr.output, Nat.le_trans hgr.size hg2.size, fun k hk => (hg2.block k (Nat.lt_of_lt_of_le hk hgr.size) (fun h => by have := (HS1.out.row.ob k h.symm).1; omega)).trans (hgr.block k hk (by simp [Value.ownBlock]))⟩
  have HX2 : Hid (OwnL x2 w.heap.size (.slice a2 n2 c2) (nextS s e).lines ∧ Below w.heap.size w x2 ∧ StAt x2 w.heap.size s (.slice a1 n c1) ∧ EvAt x2 (w.heap.size + 1) e ∧ StAt x2 (w.heap.size + 2) zeroS (.slice none 0 0)) := ⟨ho2, hbel, hst2, hev2, hres2⟩
  (refine hK _ _ ⟨hst2, hev2⟩ ?_; clear hK K; intro hS2)
  clear ho2 hg2 hst2 hev2 hres2 hgr hbel
  try simp only [Act.put, List.setIfInBounds_toArray, List.set_cons_zero, List.set_cons_succ]
  refine wpAnyH_take (i := 4) (oi := { dst := some 14, op := Op.extract (Operand.tmp 13) 0, type := 25, pos := "order.go:46", after := #[{ on := 3, ground := Ground.data }], guard := none }) (v := ?_) rfl (by kernel_rfl) (by kernel_rfl) (by kernel_rfl) (fun _ _ _ h => h) (Or.inl ⟨by rfl, ?_⟩) hS2 ?_
  rotate_left
  · (intro y hy; go_simp; try (with_reducible rfl))
  simp only [Act.put, List.setIfInBounds_toArray, List.set_cons_zero, List.set_cons_succ]
  refine wpAnyH_take (i := 5) (oi := { dst := some 15, op := Op.extract (Operand.tmp 13) 1, type := 38, pos := "order.go:46", after := #[{ on := 3, ground := Ground.data }], guard := none }) (v := ?_) rfl (by kernel_rfl) (by kernel_rfl) (by kernel_rfl) (fun _ _ _ h => h) (Or.inl ⟨by rfl, ?_⟩) hS2 ?_
  rotate_left
  · (intro y hy; go_simp; try (with_reducible rfl))
  simp only [Act.put, List.setIfInBounds_toArray, List.set_cons_zero, List.set_cons_succ]
  refine wpAnyH_ready (rs := [6]) (by kernel_rfl) (by simp) ?_
  refine AllReadyH.cons (o := { dst := none, op := Op.store 25 (Operand.tmp 4) (Operand.tmp 14), type := 0, pos := "order.go:46", after := #[{ on := 4, ground := Ground.data }, { on := 3, ground := Ground.chain }, { on := 0, ground := Ground.phase }, { on := 1, ground := Ground.phase }, { on := 2, ground := Ground.phase }, { on := 3, ground := Ground.phase }, { on := 4, ground := Ground.phase }, { on := 5, ground := Ground.phase }], guard := none }) rfl (fun K hK => ?_) AllReadyH.nil
  refine step_store_st (s := zeroS) (s2 := nextS s e) (a2 := a2) (n2 := n2) (c2 := c2) rfl _ _ rfl HX2.out.2.2.2.2 rfl rfl ?_
  intro x3 z1 z2 z3 z4
  have hS3 : StAt x3 w.heap.size s (.slice a1 n c1) ∧ EvAt x3 (w.heap.size + 1) e := ⟨(z3 _ (by omega)).trans HX2.out.2.2.1, (z3 _ (by omega)).trans HX2.out.2.2.2.1⟩
  (refine hK _ _ hS3 ?_; clear hK K; intro _)
  try simp only [Act.put, List.setIfInBounds_toArray, List.set_cons_zero, List.set_cons_succ]
  refine wpAnyH_ready (rs := [7]) (by kernel_rfl) (by simp) ?_
  refine AllReadyH.cons (o := { dst := some 5, op := Op.assign (Operand.tmp 15), type := 38, pos := "order.go:46", after := #[{ on := 5, ground := Ground.data }, { on := 6, ground := Ground.chain }, { on := 0, ground := Ground.phase }, { on := 1, ground := Ground.phase }, { on := 2, ground := Ground.phase }, { on := 3, ground := Ground.phase }, { on := 4, ground := Ground.phase }, { on := 5, ground := Ground.phase }, { on := 6, ground := Ground.phase }], guard := none }) rfl (fun K hK => ?_) AllReadyH.nil
  go_simp
  (refine hK _ _ hS3 ?_; clear hK K; intro _)
  try simp only [Act.put, List.setIfInBounds_toArray, List.set_cons_zero, List.set_cons_succ]
  refine wpAnyH_done (by kernel_rfl) ?_ _
  go_wp2
  refine bodyPost_ret (results_st2 rfl _ _ _ _ rfl rfl z1) rfl ⟨a2, n2, c2, rfl, HX2.out.1.keepOther (fun g hg => z3 g (fun hh => ?_)), z2 _ _ HX2.out.2.1 (by omega)⟩
  subst hh
  exact own_st_ne HX2.out.1 HX2.out.2.2.2.2 hg.symm
end Go.Proofs.YtmjppeljpifjpaaGreat
namespace Go.Proofs.YtmjppeljpifjpaaGreat
open Go.ChangeShapes Go.WideShapes Go.ChangeAt Go.RowKit
set_option linter.unusedVariables false
set_option linter.unusedSimpArgs false
/-- the events es lie from address a on -/
def EvsIn (w : World) (a : Option Addr) (es : List Ev) : Prop :=
  es = [] ∨ ∃ b off, a = some ⟨b, off, none⟩ ∧ b < w.heap.size ∧ ∀ k e, es[k]? = some e → ∀ j u, (evA e)[j]? = some u → w.cell? ⟨b, off + k * 10 + j, none⟩ = some u
theorem EvsIn.keep {w w' : World} {a : Option Addr} {es : List Ev} (h : EvsIn w a es) (hb : Below w.heap.size w w') : EvsIn w' a es := by
  rcases h with h | ⟨b, off, h1, h2, h3⟩
  · exact .inl h
  · exact .inr ⟨b, off, h1, Nat.lt_of_lt_of_le h2 hb.size, fun k e he j u hu => (hb.cell (p := ⟨b, _, none⟩) h2).trans (h3 k e he j u hu)⟩
theorem EvsIn.cells {w : World} {a : Option Addr} {es : List Ev} (h : EvsIn w a es) {k : Nat} {e : Ev} (he : es[k]? = some e) : ∃ b off, a = some ⟨b, off, none⟩ ∧ w.cell? ⟨b, off + k * 10, none⟩ = some (.int .i64 e.kind) ∧ w.cell? ⟨b, off + k * 10 + 1, none⟩ = some (.int .i64 e.order) ∧ w.cell? ⟨b, off + k * 10 + 2, none⟩ = some (.int .i64 e.item) ∧ w.cell? ⟨b, off + k * 10 + 3, none⟩ = some (.int .i64 e.qty) ∧ w.cell? ⟨b, off + k * 10 + 4, none⟩ = some (.int .i64 e.price) ∧ w.cell? ⟨b, off + k * 10 + 5, none⟩ = some (.int .i64 e.cur) ∧ w.cell? ⟨b, off + k * 10 + 6, none⟩ = some (.int .i64 e.tax) ∧ w.cell? ⟨b, off + k * 10 + 7, none⟩ = some (.string e.who) ∧ w.cell? ⟨b, off + k * 10 + 8, none⟩ = some (.int .i64 e.stamp) ∧ w.cell? ⟨b, off + k * 10 + 9, none⟩ = some (.string e.note) := by
  rcases h with rfl | ⟨b, off, rfl, h2, h3⟩
  · simp at he
  · have g := h3 k e he
    exact ⟨b, off, rfl, g 0 _ rfl, g 1 _ rfl, g 2 _ rfl, g 3 _ rfl, g 4 _ rfl, g 5 _ rfl, g 6 _ rfl, g 7 _ rfl, g 8 _ rfl, g 9 _ rfl⟩
/-- while events are folded: the state, a place for the answer, the table's blocks -/
structure Fo (w w1 : World) (s : St) (v : Value) (x : World) : Prop where
  st : StAt x w.heap.size s v
  res : StAt x (w.heap.size + 1) zeroS (.slice none 0 0)
  row : OwnL x w1.heap.size v s.lines
  bel : Below w.heap.size w x
  same : Same (w.heap.size + 2) w1 x
theorem Fo.keep {w w1 : World} {s : St} {v : Value} {x y : World} (h : Fo w w1 s v x) (hb : Below x.heap.size x y) : Fo w w1 s v y := ⟨h.st.after hb, h.res.after hb, h.row.keep hb, h.bel.trans (hb.mono h.bel.size), h.same.next hb⟩
theorem Fo.next {w w1 : World} {s s2 : St} {v v2 : Value} {x y z : World} (h : Fo w w1 s v x) (hw1 : w.heap.size + 2 ≤ w1.heap.size) (hg : x.grownBy y v.ownBlock) (ho : OwnL y w1.heap.size v2 s2.lines) (z1 : StAt z w.heap.size s2 v2) (z3 : ∀ k, k ≠ w.heap.size → z.heap[k]? = y.heap[k]?) (z2 : ∀ B a, Below B a y → B ≤ w.heap.size → Below B a z) : Fo w w1 s2 v2 z := by
  have st : StAt y w.heap.size s v := (hg.block _ h.st.lt (own_st_ne h.row h.st)).trans h.st
  have hb1 : Below w.heap.size w y := h.bel.grown hg h.bel.size (fun k hk => by have := (h.row.ob k hk).1; omega)
  have hsz := (z2 w.heap.size y (Below.refl _ _) (Nat.le_refl _)).size
  refine ⟨z1, (z3 _ (by omega)).trans ((hg.block _ h.res.lt (own_st_ne h.row h.res)).trans h.res), ho.keepOther (fun g hgk => z3 g (fun hh => ?_)), z2 _ _ hb1 (Nat.le_refl _), Nat.le_trans h.same.1 (Nat.le_trans hg.size hsz), fun k h1 h2 => (z3 k (by omega)).trans ((hg.block k (Nat.lt_of_lt_of_le h2 h.same.1) (fun hk => ?_)).trans (h.same.2 k h1 h2))⟩
  · subst hh; exact own_st_ne ho st hgk.symm
  · have := (h.row.ob k hk.symm).1; omega
theorem fo_new (w : World) (s : St) (v : Value) : ∃ W, (w.alloc (.cells (stA s v) 25)).alloc (.cells #[.int .i64 0, .int .i64 0, .int .i64 0, .int .i64 0, .int .i64 0, .slice none 0 0, .int .i64 0, .int .i64 0, .int .i64 0, .int .i64 0, .int .i64 0, .string ⟨#[]⟩] 25) = W ∧ StAt W w.heap.size s v ∧ StAt W (w.heap.size + 1) zeroS (.slice none 0 0) ∧ Below w.heap.size w W ∧ W.heap.size = w.heap.size + 2 := by
  refine ⟨_, rfl, ?_, ?_, ((Below.refl _ _).alloc (Nat.le_refl _) _).alloc (by simp) _, by simp⟩
  · exact (StAt.new w s v).after ((Below.refl _ _).alloc (Nat.le_refl _) _)
  · have := StAt.new (w.alloc (.cells (stA s v) 25)) zeroS (.slice none 0 0)
    simp only [World.alloc, Array.size_push] at this
    exact this
theorem Fo.start {w w0 w1 y : World} {s : St} {v v1 : Value} (h1 : StAt w0 w.heap.size s v) (h2 : StAt w0 (w.heap.size + 1) zeroS (.slice none 0 0)) (h3 : Below w.heap.size w w0) (hd : Below w0.heap.size w0 w1) (hy : Below w1.heap.size w1 y) (ho : OwnL y w1.heap.size v1 s.lines) : Fo w w1 s v1 (y.setCell ⟨w.heap.size, 5, none⟩ v1) ∧ StAt y w.heap.size s v := by
  have st : StAt y w.heap.size s v := (h1.after hd).after hy
  have bel : Below w.heap.size w y := below_next (below_next h3 hd) hy
  refine ⟨⟨St.setTo st 5 v1 rfl, ?_, ho.setOther _ _ (own_st_ne ho st), bel.setCell (p := ⟨w.heap.size, 5, none⟩) (Nat.le_refl _) _, by simpa [World.setCell] using hy.size, fun k hk1 hk2 => ?_⟩, st⟩
  · exact (heap_setCell_other y ⟨w.heap.size, 5, none⟩ (w.heap.size + 1) v1 (by show w.heap.size + 1 ≠ w.heap.size; omega)).trans ((h2.after hd).after hy)
  · exact (heap_setCell_other y ⟨w.heap.size, 5, none⟩ k v1 (by show k ≠ w.heap.size; omega)).trans (hy.block k hk2)
theorem fold_step (s : St) (es : List Ev) (k : Nat) (e : Ev) (h : es[k]? = some e) : foldS s (es.take (k + 1)) = nextS (foldS s (es.take k)) e := by
  rw [ln_take es k e h, foldS_append]; rfl
set_option maxRecDepth 20000 in
set_option maxHeartbeats 8000000 in
theorem fold_any (s : St) (es : List Ev) (a ea : Option Addr) (n cap m ecap : Nat) (w : World) (hn : s.lines.length = n) (hl : Lns w a s.lines) (hm : n * 32 ≤ 140737488351232) (hme : es.length = m) (hes : EvsIn w ea es) (hmm : m ≤ maxLen) :
    Calls Tryz.prog 25 #[.agg (stA s (.slice a n cap)), .slice ea m ecap] w fun r w' => ∃ a' n' c', r = .returned (.agg (stA (foldS s es) (.slice a' n' c'))) ∧ OwnL w' w.heap.size (.slice a' n' c') (foldS s es).lines ∧ Below w.heap.size w w' := by
  obtain ⟨W, hW, h1, h2, h3, h4⟩ := fo_new w s (.slice a n cap)
  have HN : Hid (s.lines.length = n) := hn
  have HM : Hid (es.length = m) := hme
  have HW : Hid (StAt W w.heap.size s (.slice a n cap) ∧ StAt W (w.heap.size + 1) zeroS (.slice none 0 0) ∧ Below w.heap.size w W ∧ W.heap.size = w.heap.size + 2) := ⟨h1, h2, h3, h4⟩
  have HL : Hid (Lns W a s.lines) := hl.keep h3
  have HES : Hid (EvsIn w ea es) := hes
  unfold maxLen at hmm
  clear hn hl hme hes h1 h2 h3 h4
  go_enter Tryz.func25, Tryz.ntmps25
  go_wp2_with (first
    | (go_at_call 44; refine (deeds_any _).mono ?_; rintro _ w1 ⟨b, rfl, hd, hb⟩; have HD : Hid (DeedsAt (w.heap.size + 2) w1 b) := HW.out.2.2.2 ▸ hd; have HB1 : Hid (Below W.heap.size W w1) := hb; have c5 := (HW.out.1.after hb).cell 5 (.slice a n cap) rfl; clear hd hb)
    | (go_at_call 48; refine (lnclone_any s.lines a n cap _ HN.out (HL.out.keep HB1.out) hm).mono ?_; rintro _ y1 ⟨a1, c1, rfl, ho1, hb1⟩; obtain ⟨hfo, hst⟩ := Fo.start HW.out.1 HW.out.2.1 HW.out.2.2.1 HB1.out hb1 ho1; have k5 := hst.cell 5 (.slice a n cap) rfl; have kf := hst.froz 5; have HF0 : Hid (Fo w w1 s (.slice a1 n c1) (y1.setCell ⟨w.heap.size, 5, none⟩ (.slice a1 n c1))) := hfo; clear ho1 hb1 hfo hst))
  have HS1 : Hid (w.heap.size + 2 ≤ w1.heap.size) := by have := HB1.out.size; have := HW.out.2.2.2; show _ ≤ _; omega
  go_loopw [15] (fun vi wr => ∃ (k : Nat), k ≤ m ∧ vi = .int .i64 k ∧ Hid (∃ a' n' c', Fo w w1 (foldS s (es.take k)) (.slice a' n' c') wr)) (fun vi _ => m - (intOf vi).toNat)
  case atStart => exact ⟨0, Nat.zero_le _, rfl, ⟨_, _, _, HF0.out⟩⟩
  case round =>
    clear HF0 k5 kf c5 hW
    obtain ⟨k, hk, rfl, HI⟩ := hrel
    by_cases hkm : k < m
    · obtain ⟨e, he⟩ := ln_get (L := es) (k := k) (by rw [HM.out]; exact hkm)
      obtain ⟨a2, n2, c2, hF⟩ := HI.out
      have hstep := fold_step s es k e he
      obtain ⟨eb, eoff, rfl, q0, q1, q2, q3, q4, q5, q6, q7, q8, q9⟩ := (HES.out.keep hF.bel).cells he
      obtain ⟨t, ht⟩ : ∃ t, foldS s (es.take k) = t := ⟨_, rfl⟩
      rw [ht] at hF hstep
      have HST : Hid (foldS s (es.take (k + 1)) = nextS t e) := hstep
      have HA : Hid (Fo w w1 t (.slice a2 n2 c2) (wr.alloc (.cells (evA e) 37))) := hF.keep ((Below.refl _ _).alloc (Nat.le_refl _) _)
      have HE : Hid (EvAt (wr.alloc (.cells (evA e) 37)) wr.heap.size e) := evAt_new wr e
      clear HI hF hstep ht he
      go_wp2_with (first
        | ((with_reducible refine guard_load 25 ?_); refine wpList_load_st rfl _ rfl HA.out.st rfl ?_)
        | ((with_reducible refine guard_load 37 ?_); refine wpList_load_ev rfl _ rfl HE.out rfl ?_)
        | (go_at_call 49; refine (next_any (w.heap.size + 2) b t e a2 n2 c2 w1.heap.size _ (HD.out.same HA.out.same) HA.out.row HA.out.same.1).mono ?_; rintro _ x2 ⟨a3, n3, c3, rfl, ho3, hg3⟩; have hst3 : StAt x2 w.heap.size t (.slice a2 n2 c2) := (hg3.block _ HA.out.st.lt (own_st_ne HA.out.row HA.out.st)).trans HA.out.st; have HX2 : Hid (OwnL x2 w1.heap.size (.slice a3 n3 c3) (nextS t e).lines ∧ World.grownBy _ x2 (Value.slice a2 n2 c2).ownBlock ∧ StAt x2 w.heap.size t (.slice a2 n2 c2)) := ⟨ho3, hg3, hst3⟩; clear ho3 hg3 hst3)
        | ((with_reducible refine guard_store 25 ?_); refine wpList_store_st (s := t) (s2 := nextS t e) (a2 := a3) (n2 := n3) (c2 := c3) rfl _ _ rfl HX2.out.2.2 rfl rfl ?_; intro x3 z1 z2 z3 z4; have HF3 : Hid (Fo w w1 (nextS t e) (.slice a3 n3 c3) x3) := HA.out.next HS1.out HX2.out.2.1 HX2.out.1 z1 z3 z2; clear z1 z2 z3 z4))
      go_roundw
      case rel => exact ⟨k + 1, by omega, by go_num, ⟨a3, n3, c3, by rw [HST.out]; exact HF3.out⟩⟩
      case measure => simp [intOf]; omega
    · obtain rfl : k = m := by omega
      obtain ⟨a2, n2, c2, hF⟩ := HI.out
      rw [List.take_of_length_le (by rw [HM.out]; exact Nat.le_refl _)] at hF
      have HF : Hid (Fo w w1 (foldS s es) (.slice a2 n2 c2) wr) := hF
      clear hF HI
      go_wp2_with (first
        | ((with_reducible refine guard_load 25 ?_); refine wpList_load_st rfl _ rfl HF.out.st rfl ?_)
        | ((with_reducible refine guard_store 25 ?_); refine wpList_store_st (s := zeroS) (s2 := foldS s es) (a2 := a2) (n2 := n2) (c2 := c2) rfl _ _ rfl HF.out.res rfl rfl ?_; intro y z1 z2 z3 z4))
      refine bodyPost_ret (results_st1 rfl _ _ _ rfl z1) rfl ⟨a2, n2, c2, rfl, ?_, z2 _ _ HF.out.bel (by omega)⟩
      exact (HF.out.row.keepOther (fun g hg => z3 g (fun hh => own_st_ne HF.out.row (hh ▸ HF.out.res) hg.symm))).mono (by have := HS1.out; omega)
end Go.Proofs.YtmjppeljpifjpaaGreat
