/- Own texts, joined: Od13, Od14. -/
import Derived.Test.YtmjppeljpifjpaaGreatK24
import Derived.Test.YtmjppeljpifjpaaGreatK25
import Derived.Test.YtmjppeljpifjpaaGreatK26
namespace Go.Proofs.YtmjppeljpifjpaaGreat
open Go.ChangeShapes Go.WideShapes Go.ChangeAt Go.RowKit
set_option linter.unusedVariables false
set_option linter.unusedSimpArgs false
theorem OwnL.ob {w : World} {base : Nat} {v : Value} {L : List Ln} (h : OwnL w base v L) (k : Nat) (hk : v.ownBlock = some k) : base ≤ k ∧ k < w.heap.size ∧ ∃ cur, w.heap[k]? = some (.cells cur 44 (0, 0)) := by
  obtain ⟨h1, h2⟩ := h
  rcases h2 with ⟨rfl, hn⟩ | ⟨g, cap, cur, rfl, hb, hg, hnc, hcm, hcs, htake⟩
  · simp [Value.ownBlock] at hk
  · simp only [Value.ownBlock, Option.some.injEq] at hk
    subst hk
    exact ⟨hb, lt_of_heap hg, cur, hg⟩
theorem own_st_ne {w : World} {base b : Nat} {v u : Value} {L : List Ln} {s : St} (h : OwnL w base v L) (hs : StAt w b s u) : some b ≠ v.ownBlock := by
  intro hk
  obtain ⟨_, _, cur, hc⟩ := h.ob b hk.symm
  unfold StAt at hs
  rw [hs] at hc
  injection hc with hc
  injection hc with _ h2 _
  revert h2; decide
theorem own_ev_ne {w : World} {base b : Nat} {v : Value} {L : List Ln} {e : Ev} (h : OwnL w base v L) (hs : EvAt w b e) : some b ≠ v.ownBlock := by
  intro hk
  obtain ⟨_, _, cur, hc⟩ := h.ob b hk.symm
  unfold EvAt at hs
  rw [hs] at hc
  injection hc with hc
  injection hc with _ h2 _
  revert h2; decide
theorem OwnL.setOther {w : World} {base : Nat} {v : Value} {L : List Ln} (h : OwnL w base v L) (p : Addr) (u : Value) (hp : some p.block ≠ v.ownBlock) : OwnL (w.setCell p u) base v L := by
  obtain ⟨h1, h2⟩ := h
  refine ⟨h1, ?_⟩
  rcases h2 with ⟨rfl, hn⟩ | ⟨g, cap, cur, rfl, hb, hg, hnc, hcm, hcs, htake⟩
  · exact .inl ⟨rfl, hn⟩
  · refine .inr ⟨g, cap, cur, rfl, hb, ?_, hnc, hcm, hcs, htake⟩
    rw [heap_setCell_other w p g u (fun hh => hp (by simp [Value.ownBlock, hh]))]
    exact hg
theorem OwnL.keepOther {w w' : World} {base : Nat} {v : Value} {L : List Ln} (h : OwnL w base v L) (hk : ∀ g, v.ownBlock = some g → w'.heap[g]? = w.heap[g]?) : OwnL w' base v L := by
  obtain ⟨h1, h2⟩ := h
  refine ⟨h1, ?_⟩
  rcases h2 with ⟨rfl, hn⟩ | ⟨g, cap, cur, rfl, hb, hg, hnc, hcm, hcs, htake⟩
  · exact .inl ⟨rfl, hn⟩
  · exact .inr ⟨g, cap, cur, rfl, hb, (hk g rfl).trans hg, hnc, hcm, hcs, htake⟩
theorem below_grown {w w' : World} (h : Below w.heap.size w w') (ob : Option Nat) : w.grownBy w' ob := ⟨h.os, h.tape, h.output, h.size, fun k hk _ => h.block k hk⟩
/-- a state, an event and a place for the answer, in three new blocks; a row of lines of one's own -/
structure S3 (w : World) (base : Nat) (v0 : Value) (s : St) (e : Ev) (v : Value) (x : World) : Prop where
  st : StAt x w.heap.size s v
  ev : EvAt x (w.heap.size + 1) e
  res : StAt x (w.heap.size + 2) zeroS (.slice none 0 0)
  row : OwnL x base v s.lines
  gr : w.grownBy x v0.ownBlock
theorem s3_new (w : World) (base : Nat) (s : St) (e : Ev) (v : Value) (ho : OwnL w base v s.lines) : ∃ W, ((w.alloc (.cells (stA s v) 25)).alloc (.cells (evA e) 37)).alloc (.cells #[.int .i64 0, .int .i64 0, .int .i64 0, .int .i64 0, .int .i64 0, .slice none 0 0, .int .i64 0, .int .i64 0, .int .i64 0, .int .i64 0, .int .i64 0, .string ⟨#[]⟩] 25) = W ∧ S3 w base v s e v W := by
  refine ⟨_, rfl, ?_⟩
  have b3 : Below w.heap.size w (((w.alloc (.cells (stA s v) 25)).alloc (.cells (evA e) 37)).alloc (.cells (stA zeroS (.slice none 0 0)) 25)) := (((Below.refl _ _).alloc (Nat.le_refl _) _).alloc (by simp) _).alloc (by simp; omega) _
  refine ⟨?_, ?_, ?_, ho.keep b3, below_grown b3 _⟩
  · exact ((StAt.new w s v).after ((Below.refl _ _).alloc (Nat.le_refl _) _)).after ((Below.refl _ _).alloc (Nat.le_refl _) _)
  · have := (evAt_new (w.alloc (.cells (stA s v) 25)) e).after ((Below.refl _ _).alloc (Nat.le_refl _) (.cells (stA zeroS (.slice none 0 0)) 25))
    simp only [World.alloc, Array.size_push] at this
    exact this
  · have := StAt.new ((w.alloc (.cells (stA s v) 25)).alloc (.cells (evA e) 37)) zeroS (.slice none 0 0)
    simp only [World.alloc, Array.size_push] at this
    exact this
theorem S3.drew {w : World} {base : Nat} {v0 : Value} {s : St} {e : Ev} {v : Value} {x : World} (h : S3 w base v0 s e v x) : S3 w base v0 s e v x.drew := ⟨h.st, h.ev, h.res, h.row, h.gr.os, h.gr.tape, h.gr.output, h.gr.size, h.gr.block⟩
theorem S3.keep {w : World} {base : Nat} {v0 : Value} {s : St} {e : Ev} {v : Value} {x y : World} (h : S3 w base v0 s e v x) (hb : Below x.heap.size x y) : S3 w base v0 s e v y :=
  ⟨h.st.after hb, h.ev.after hb, h.res.after hb, h.row.keep hb, ⟨hb.os.trans h.gr.os, hb.tape.trans h.gr.tape, hb.output.trans h.gr.output, Nat.le_trans h.gr.size hb.size, fun k hk hne => (hb.block k (Nat.lt_of_lt_of_le hk h.gr.size)).trans (h.gr.block k hk hne)⟩⟩
theorem grown_set {w x : World} {ob : Option Nat} (h : w.grownBy x ob) (p : Addr) (u : Value) (hp : w.heap.size ≤ p.block) : w.grownBy (x.setCell p u) ob :=
  ⟨h.os, h.tape, h.output, by simpa [World.setCell] using h.size, fun k hk hne => (heap_setCell_other x p k u (by omega)).trans (h.block k hk hne)⟩
theorem St.setTo {x : World} {b : Nat} {s s2 : St} {v v2 : Value} (h : StAt x b s v) (i : Nat) (u : Value) (hs : (stA s v).setIfInBounds i u = stA s2 v2) : StAt (x.setCell ⟨b, i, none⟩ u) b s2 v2 := by
  unfold StAt at h ⊢
  rw [heap_setCell_same x b i _ _ _ h, hs]
theorem S3.set {w : World} {base : Nat} {v0 : Value} {s s2 : St} {e : Ev} {v : Value} {x : World} (h : S3 w base v0 s e v x) (i : Nat) (u : Value) (hs : (stA s v).setIfInBounds i u = stA s2 v) (hl : s2.lines = s.lines) : S3 w base v0 s2 e v (x.setCell ⟨w.heap.size, i, none⟩ u) := by
  refine ⟨St.setTo h.st i u hs, ?_, ?_, ?_, grown_set h.gr _ _ (Nat.le_refl _)⟩
  · exact (heap_setCell_other x ⟨w.heap.size, i, none⟩ (w.heap.size + 1) u (by show w.heap.size + 1 ≠ w.heap.size; omega)).trans h.ev
  · exact (heap_setCell_other x ⟨w.heap.size, i, none⟩ (w.heap.size + 2) u (by show w.heap.size + 2 ≠ w.heap.size; omega)).trans h.res
  · rw [hl]; exact h.row.setOther ⟨w.heap.size, i, none⟩ u (own_st_ne h.row h.st)
/-- the answer is stored -/
theorem S3.done {w : World} {base : Nat} {v0 : Value} {s : St} {e : Ev} {v : Value} {x y : World} (h : S3 w base v0 s e v x) (hz : ∀ k, k ≠ w.heap.size + 2 → y.heap[k]? = x.heap[k]?) (hb : ∀ B a, Below B a x → B ≤ w.heap.size + 2 → Below B a y) : OwnL y base v s.lines ∧ w.grownBy y v0.ownBlock := by
  have b1 := hb (w.heap.size + 2) x (Below.refl _ _) (Nat.le_refl _)
  refine ⟨h.row.keepOther (fun g hg => hz g (fun hh => ?_)), b1.os.trans h.gr.os, b1.tape.trans h.gr.tape, b1.output.trans h.gr.output, Nat.le_trans h.gr.size b1.size, fun k hk hne => (hz k (by omega)).trans (h.gr.block k hk hne)⟩
  subst hh
  exact own_st_ne h.row h.res hg.symm
theorem S3.froz {w : World} {base : Nat} {v0 : Value} {s : St} {e : Ev} {v : Value} {x : World} (h : S3 w base v0 s e v x) (i : Nat) : x.frozen? ⟨w.heap.size, i, none⟩ = false := h.st.froz i
def DoPost (s' : St) (x : World) (base : Nat) (v : Value) (r : Ending) (x' : World) : Prop := ∃ a n c, r = .returned (.agg (stA s' (.slice a n c))) ∧ OwnL x' base (.slice a n c) s'.lines ∧ x.grownBy x' v.ownBlock
/-- the function does what an event of the kind k is to do -/
def DoOk (g : Nat) (k : Int) : Prop := (∀ (a : Array Value) (x : World), (callFunc g a).run Tryz.prog x = .ok (.enter g a) x) ∧
  ∀ (x : World) (base : Nat) (s : St) (e : Ev) (a : Option Addr) (n cap : Nat), OwnL x base (.slice a n cap) s.lines → base ≤ x.heap.size → Vl s → Right 5 e → e.kind = k → stdR s k = 0 → refR s e = 0 →
    Calls Tryz.prog g #[.agg (stA s (.slice a n cap)), .agg (evA e)] x fun r x' => DoPost (doS s e) x base (.slice a n cap) r x'
end Go.Proofs.YtmjppeljpifjpaaGreat
namespace Go.Proofs.YtmjppeljpifjpaaGreat
open Go.ChangeShapes Go.WideShapes Go.ChangeAt Go.RowKit
set_option linter.unusedVariables false
set_option linter.unusedSimpArgs false
theorem cf_place (a : Array Value) (w : World) : (callFunc 71 a).run Tryz.prog w = .ok (.enter 71 a) w := by kernel_rfl
theorem cf_cancel (a : Array Value) (w : World) : (callFunc 82 a).run Tryz.prog w = .ok (.enter 82 a) w := by kernel_rfl
theorem cf_refund (a : Array Value) (w : World) : (callFunc 86 a).run Tryz.prog w = .ok (.enter 86 a) w := by kernel_rfl
theorem cf_hold (a : Array Value) (w : World) : (callFunc 87 a).run Tryz.prog w = .ok (.enter 87 a) w := by kernel_rfl
theorem cf_release (a : Array Value) (w : World) : (callFunc 88 a).run Tryz.prog w = .ok (.enter 88 a) w := by kernel_rfl
theorem cf_pay (a : Array Value) (w : World) : (callFunc 78 a).run Tryz.prog w = .ok (.enter 78 a) w := by kernel_rfl
set_option maxRecDepth 20000 in
set_option maxHeartbeats 4000000 in
theorem do_place : DoOk 71 1 := by
  refine ⟨cf_place, fun x base s e a n cap ho hb v hr hk hst hrf => ?_⟩
  rw [show doS s e = { s with status := 1, cur := e.cur, tax := e.tax } from by unfold doS; rw [if_pos hk]]
  obtain ⟨W, hW, H⟩ := s3_new x base s e _ ho
  have HS : Hid (S3 x base (.slice a n cap) s e (.slice a n cap) W) := H
  obtain ⟨c0, c1, c2, c3, c4, c5, c6, c7, c8, c9, c10, c11⟩ := H.st.cells
  obtain ⟨d0, d1, d2, d3, d4, d5, d6, d7, d8, d9⟩ := H.ev.cells10
  have f1 := H.froz 1
  have f3 := H.froz 3
  have f4 := H.froz 4
  clear H ho hb v hr hk hst hrf
  go_enter Tryz.func71, Tryz.ntmps71
  go_wp2
  go_region
  all_goals
    have H4 : S3 x base (.slice a n cap) { s with status := 1, cur := e.cur, tax := e.tax } e (.slice a n cap) (((W.drew.setCell ⟨x.heap.size, 1, none⟩ (.int .i64 1)).setCell ⟨x.heap.size, 3, none⟩ (.int .i64 e.cur)).setCell ⟨x.heap.size, 4, none⟩ (.int .i64 e.tax)) := (((HS.out.drew.set (s2 := { s with status := 1 }) 1 _ rfl rfl).set (s2 := { s with status := 1, cur := e.cur }) 3 _ rfl rfl).set 4 _ rfl rfl)
    have HS4 : Hid (S3 x base (.slice a n cap) { s with status := 1, cur := e.cur, tax := e.tax } e (.slice a n cap) (((W.drew.setCell ⟨x.heap.size, 1, none⟩ (.int .i64 1)).setCell ⟨x.heap.size, 3, none⟩ (.int .i64 e.cur)).setCell ⟨x.heap.size, 4, none⟩ (.int .i64 e.tax))) := H4
    clear H4
    go_wp2_with (first
      | ((with_reducible refine guard_load 25 ?_); refine wpList_load_st rfl _ rfl HS4.out.st rfl ?_)
      | ((with_reducible refine guard_store 25 ?_); refine wpList_store_st (s := zeroS) (s2 := { s with status := 1, cur := e.cur, tax := e.tax }) (a2 := a) (n2 := n) (c2 := cap) rfl _ _ rfl HS4.out.res rfl rfl ?_; intro y z1 z2 z3 z4))
    have HZ := HS4.out.done z3 z2
    exact bodyPost_ret (results_st1 rfl _ _ _ rfl z1) rfl ⟨a, n, cap, rfl, HZ.1, HZ.2⟩
set_option maxRecDepth 20000 in
set_option maxHeartbeats 4000000 in
theorem do_cancel : DoOk 82 5 := by
  refine ⟨cf_cancel, fun x base s e a n cap ho hb v hr hk hst hrf => ?_⟩
  rw [show doS s e = { s with status := 5, prior := 0 } from by unfold doS; rw [if_neg (by omega), if_neg (by omega), if_neg (by omega), if_neg (by omega), if_pos hk]]
  obtain ⟨W, hW, H⟩ := s3_new x base s e _ ho
  obtain ⟨c0, c1, c2, c3, c4, c5, c6, c7, c8, c9, c10, c11⟩ := H.st.cells
  have f1 := H.froz 1
  have f2 := H.froz 2
  have HS4 : Hid (S3 x base (.slice a n cap) { s with status := 5, prior := 0 } e (.slice a n cap) ((W.setCell ⟨x.heap.size, 1, none⟩ (.int .i64 5)).setCell ⟨x.heap.size, 2, none⟩ (.int .i64 0))) := ((H.set (s2 := { s with status := 5 }) 1 _ rfl rfl).set 2 _ rfl rfl)
  clear H ho hb v hr hk hst hrf
  go_enter Tryz.func82, Tryz.ntmps82
  go_wp2_with (first
    | ((with_reducible refine guard_load 25 ?_); refine wpList_load_st rfl _ rfl HS4.out.st rfl ?_)
    | ((with_reducible refine guard_store 25 ?_); refine wpList_store_st (s := zeroS) (s2 := { s with status := 5, prior := 0 }) (a2 := a) (n2 := n) (c2 := cap) rfl _ _ rfl HS4.out.res rfl rfl ?_; intro y z1 z2 z3 z4))
  have HZ := HS4.out.done z3 z2
  exact bodyPost_ret (results_st1 rfl _ _ _ rfl z1) rfl ⟨a, n, cap, rfl, HZ.1, HZ.2⟩
set_option maxRecDepth 20000 in
set_option maxHeartbeats 4000000 in
theorem do_hold : DoOk 87 8 := by
  refine ⟨cf_hold, fun x base s e a n cap ho hb v hr hk hst hrf => ?_⟩
  rw [show doS s e = { s with status := 2, prior := s.status } from by unfold doS; rw [if_neg (by omega), if_neg (by omega), if_neg (by omega), if_neg (by omega), if_neg (by omega), if_neg (by omega), if_neg (by omega), if_pos hk]]
  obtain ⟨W, hW, H⟩ := s3_new x base s e _ ho
  obtain ⟨c0, c1, c2, c3, c4, c5, c6, c7, c8, c9, c10, c11⟩ := H.st.cells
  have f1 := H.froz 1
  have f2 := H.froz 2
  have HS4 : Hid (S3 x base (.slice a n cap) { s with status := 2, prior := s.status } e (.slice a n cap) ((W.setCell ⟨x.heap.size, 1, none⟩ (.int .i64 2)).setCell ⟨x.heap.size, 2, none⟩ (.int .i64 s.status))) := ((H.set (s2 := { s with status := 2 }) 1 _ rfl rfl).set 2 _ rfl rfl)
  clear H ho hb v hr hk hst hrf
  go_enter Tryz.func87, Tryz.ntmps87
  go_wp2_with (first
    | ((with_reducible refine guard_load 25 ?_); refine wpList_load_st rfl _ rfl HS4.out.st rfl ?_)
    | ((with_reducible refine guard_store 25 ?_); refine wpList_store_st (s := zeroS) (s2 := { s with status := 2, prior := s.status }) (a2 := a) (n2 := n) (c2 := cap) rfl _ _ rfl HS4.out.res rfl rfl ?_; intro y z1 z2 z3 z4))
  have HZ := HS4.out.done z3 z2
  exact bodyPost_ret (results_st1 rfl _ _ _ rfl z1) rfl ⟨a, n, cap, rfl, HZ.1, HZ.2⟩
set_option maxRecDepth 20000 in
set_option maxHeartbeats 4000000 in
theorem do_release : DoOk 88 9 := by
  refine ⟨cf_release, fun x base s e a n cap ho hb v hr hk hst hrf => ?_⟩
  rw [show doS s e = { s with status := s.prior, prior := 0 } from by unfold doS; rw [if_neg (by omega), if_neg (by omega), if_neg (by omega), if_neg (by omega), if_neg (by omega), if_neg (by omega), if_neg (by omega), if_neg (by omega), if_pos hk]]
  obtain ⟨W, hW, H⟩ := s3_new x base s e _ ho
  obtain ⟨c0, c1, c2, c3, c4, c5, c6, c7, c8, c9, c10, c11⟩ := H.st.cells
  have f1 := H.froz 1
  have f2 := H.froz 2
  have HS4 : Hid (S3 x base (.slice a n cap) { s with status := s.prior, prior := 0 } e (.slice a n cap) ((W.setCell ⟨x.heap.size, 1, none⟩ (.int .i64 s.prior)).setCell ⟨x.heap.size, 2, none⟩ (.int .i64 0))) := ((H.set (s2 := { s with status := s.prior }) 1 _ rfl rfl).set 2 _ rfl rfl)
  clear H ho hb v hr hk hst hrf
  go_enter Tryz.func88, Tryz.ntmps88
  go_wp2_with (first
    | ((with_reducible refine guard_load 25 ?_); refine wpList_load_st rfl _ rfl HS4.out.st rfl ?_)
    | ((with_reducible refine guard_store 25 ?_); refine wpList_store_st (s := zeroS) (s2 := { s with status := s.prior, prior := 0 }) (a2 := a) (n2 := n) (c2 := cap) rfl _ _ rfl HS4.out.res rfl rfl ?_; intro y z1 z2 z3 z4))
  have HZ := HS4.out.done z3 z2
  exact bodyPost_ret (results_st1 rfl _ _ _ rfl z1) rfl ⟨a, n, cap, rfl, HZ.1, HZ.2⟩
set_option maxRecDepth 20000 in
set_option maxHeartbeats 4000000 in
theorem do_refund : DoOk 86 7 := by
  refine ⟨cf_refund, fun x base s e a n cap ho hb v hr hk hst hrf => ?_⟩
  rw [show doS s e = { s with refunded := s.refunded + e.price } from by unfold doS; rw [if_neg (by omega), if_neg (by omega), if_neg (by omega), if_neg (by omega), if_neg (by omega), if_neg (by omega), if_pos hk]]
  obtain ⟨W, hW, H⟩ := s3_new x base s e _ ho
  obtain ⟨c0, c1, c2, c3, c4, c5, c6, c7, c8, c9, c10, c11⟩ := H.st.cells
  obtain ⟨d0, d1, d2, d3, d4, d5, d6, d7, d8, d9⟩ := H.ev.cells10
  have f7 := H.froz 7
  have g1 := v.f1
  have g2 : s.refunded ≤ 240000000000000 := by have := (vld_due (vl_to v)); omega
  have g3 := hr.price0
  have g4 : e.price ≤ 100000000 := by have := hr.price1; simpa [hiP] using this
  have HS4 : Hid (S3 x base (.slice a n cap) { s with refunded := s.refunded + e.price } e (.slice a n cap) (W.setCell ⟨x.heap.size, 7, none⟩ (.int .i64 (s.refunded + e.price)))) := H.set 7 _ rfl rfl
  clear H ho hb v hr hk hst hrf
  go_enter Tryz.func86, Tryz.ntmps86
  go_wp2_with (first
    | ((with_reducible refine guard_load 25 ?_); refine wpList_load_st rfl _ rfl HS4.out.st rfl ?_)
    | ((with_reducible refine guard_store 25 ?_); refine wpList_store_st (s := zeroS) (s2 := { s with refunded := s.refunded + e.price }) (a2 := a) (n2 := n) (c2 := cap) rfl _ _ rfl HS4.out.res rfl rfl ?_; intro y z1 z2 z3 z4))
  have HZ := HS4.out.done z3 z2
  exact bodyPost_ret (results_st1 rfl _ _ _ rfl z1) rfl ⟨a, n, cap, rfl, HZ.1, HZ.2⟩
set_option maxRecDepth 20000 in
set_option maxHeartbeats 4000000 in
theorem do_pay : DoOk 78 3 := by
  refine ⟨cf_pay, fun x base s e a n cap ho hb v hr hk hst hrf => ?_⟩
  rw [show doS s e = payS s e from by unfold doS; rw [if_neg (by omega), if_neg (by omega), if_pos hk]]
  obtain ⟨W, hW, H⟩ := s3_new x base s e _ ho
  obtain ⟨c0, c1, c2, c3, c4, c5, c6, c7, c8, c9, c10, c11⟩ := H.st.cells
  obtain ⟨d0, d1, d2, d3, d4, d5, d6, d7, d8, d9⟩ := H.ev.cells10
  have f6 := H.froz 6
  have g1 := v.p1
  have g2 : s.paid ≤ 240000000000000 := by have := (vld_due (vl_to v)); omega
  have g3 := hr.price0
  have g4 : e.price ≤ 100000000 := by have := hr.price1; simpa [hiP] using this
  obtain ⟨s1, hs1⟩ : ∃ s1 : St, { s with paid := s.paid + e.price } = s1 := ⟨_, rfl⟩
  have hlen : s1.lines.length = n := by
    obtain ⟨a2, c2, hv, _⟩ := ho.shape
    cases hv; rw [← hs1]
  have HN : Hid (s1.lines.length = n) := hlen
  have HLB : Hid (linesB s1.lines = true ∧ 0 ≤ s1.tax ∧ s1.tax ≤ 5000) := by rw [← hs1]; exact ⟨v.lines, v.t1, v.t2⟩
  have HS4 : Hid (S3 x base (.slice a n cap) s1 e (.slice a n cap) (W.setCell ⟨x.heap.size, 6, none⟩ (.int .i64 (s.paid + e.price)))) := by rw [← hs1]; exact H.set 6 _ rfl rfl
  have hP : payS s e = { s1 with status := if paidB s1 = true then 3 else s1.status } := by rw [← hs1]; rfl
  obtain ⟨P, hPP⟩ : ∃ P, paidB s1 = P := ⟨_, rfl⟩
  have HP : Hid (paidB s1 = P) := hPP
  rw [hP, hPP]
  clear H ho hb v hr hk hst hrf hs1 hlen hP hPP
  cases P
  · rw [if_neg (by simp)]
    go_enter Tryz.func78, Tryz.ntmps78
    go_wp2_with (first
      | (go_at_call 63; refine (paidUp_any s1 a n cap _ HN.out (ownl_lns HS4.out.row) HLB.out.1 HLB.out.2.1 HLB.out.2.2).mono ?_; rw [HP.out]; rintro _ y1 ⟨rfl, hb1⟩; have HS5 : Hid (S3 x base (.slice a n cap) s1 e (.slice a n cap) y1) := HS4.out.keep hb1; clear hb1)
      | ((with_reducible refine guard_load 25 ?_); first | refine wpList_load_st rfl _ rfl HS5.out.st rfl ?_ | refine wpList_load_st rfl _ rfl HS4.out.st rfl ?_)
      | ((with_reducible refine guard_store 25 ?_); refine wpList_store_st (s := zeroS) (s2 := s1) (a2 := a) (n2 := n) (c2 := cap) rfl _ _ rfl HS5.out.res rfl rfl ?_; intro y z1 z2 z3 z4))
    have HZ := HS5.out.done z3 z2
    exact bodyPost_ret (results_st1 rfl _ _ _ rfl z1) rfl ⟨a, n, cap, rfl, HZ.1, HZ.2⟩
  · rw [if_pos rfl]
    go_enter Tryz.func78, Tryz.ntmps78
    go_wp2_with (first
      | (go_at_call 63; refine (paidUp_any s1 a n cap _ HN.out (ownl_lns HS4.out.row) HLB.out.1 HLB.out.2.1 HLB.out.2.2).mono ?_; rw [HP.out]; rintro _ y1 ⟨rfl, hb1⟩; have h5 : S3 x base (.slice a n cap) s1 e (.slice a n cap) y1 := HS4.out.keep hb1; have q1 := h5.st.cell 1 (.int .i64 s1.status) rfl; have q2 := h5.froz 1; have HS5 : Hid (S3 x base (.slice a n cap) { s1 with status := 3 } e (.slice a n cap) (y1.setCell ⟨x.heap.size, 1, none⟩ (.int .i64 3))) := h5.set 1 _ rfl rfl; clear hb1 h5)
      | ((with_reducible refine guard_load 25 ?_); first | refine wpList_load_st rfl _ rfl HS5.out.st rfl ?_ | refine wpList_load_st rfl _ rfl HS4.out.st rfl ?_)
      | ((with_reducible refine guard_store 25 ?_); refine wpList_store_st (s := zeroS) (s2 := { s1 with status := 3 }) (a2 := a) (n2 := n) (c2 := cap) rfl _ _ rfl HS5.out.res rfl rfl ?_; intro y z1 z2 z3 z4))
    have HZ := HS5.out.done z3 z2
    exact bodyPost_ret (results_st1 rfl _ _ _ rfl z1) rfl ⟨a, n, cap, rfl, HZ.1, HZ.2⟩
end Go.Proofs.YtmjppeljpifjpaaGreat
