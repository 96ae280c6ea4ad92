/- Own texts, joined: Od13, Od14, Od15, Od16, Od17. -/
import Derived.Test.YtbpjlphjhjfdoaaGreatM22
import Derived.Test.YtbpjlphjhjfdoaaGreatK25
import Derived.Test.YtbpjlphjhjfdoaaGreatK26
import Derived.Lib.SliceRun
namespace Go.Proofs.YtbpjlphjhjfdoaaGreat
open Go.ChangeShapes Go.WideShapes Go.ChangeAt Go.RowKit
set_option linter.unusedVariables false
set_option linter.unusedSimpArgs false
theorem OwnL.ob {w : World} {base : Nat} {v : Value} {L : List Ln} (h : OwnL w base v L) (k : Nat) (hk : v.ownBlock = some k) : base ≤ k ∧ k < w.heap.size ∧ ∃ cur, w.heap[k]? = some (.cells cur 36 (0, 0)) := by
  obtain ⟨h1, h2⟩ := h
  rcases h2 with ⟨rfl, hn⟩ | ⟨g, cap, cur, rfl, hb, hg, hnc, hcm, hcs, htake⟩
  · simp [Value.ownBlock] at hk
  · simp only [Value.ownBlock, Option.some.injEq] at hk
    subst hk
    exact ⟨hb, lt_of_heap hg, cur, hg⟩
theorem own_st_ne {w : World} {base b : Nat} {v u : Value} {L : List Ln} {s : St} (h : OwnL w base v L) (hs : StAt w b s u) : some b ≠ v.ownBlock := by
  intro hk
  obtain ⟨_, _, cur, hc⟩ := h.ob b hk.symm
  unfold StAt at hs
  rw [hs] at hc
  injection hc with hc
  injection hc with _ h2 _
  revert h2; decide
theorem own_ev_ne {w : World} {base b : Nat} {v : Value} {L : List Ln} {e : Ev} (h : OwnL w base v L) (hs : EvAt w b e) : some b ≠ v.ownBlock := by
  intro hk
  obtain ⟨_, _, cur, hc⟩ := h.ob b hk.symm
  unfold EvAt at hs
  rw [hs] at hc
  injection hc with hc
  injection hc with _ h2 _
  revert h2; decide
theorem OwnL.setOther {w : World} {base : Nat} {v : Value} {L : List Ln} (h : OwnL w base v L) (p : Addr) (u : Value) (hp : some p.block ≠ v.ownBlock) : OwnL (w.setCell p u) base v L := by
  obtain ⟨h1, h2⟩ := h
  refine ⟨h1, ?_⟩
  rcases h2 with ⟨rfl, hn⟩ | ⟨g, cap, cur, rfl, hb, hg, hnc, hcm, hcs, htake⟩
  · exact .inl ⟨rfl, hn⟩
  · refine .inr ⟨g, cap, cur, rfl, hb, ?_, hnc, hcm, hcs, htake⟩
    rw [heap_setCell_other w p g u (fun hh => hp (by simp [Value.ownBlock, hh]))]
    exact hg
theorem OwnL.keepOther {w w' : World} {base : Nat} {v : Value} {L : List Ln} (h : OwnL w base v L) (hk : ∀ g, v.ownBlock = some g → w'.heap[g]? = w.heap[g]?) : OwnL w' base v L := by
  obtain ⟨h1, h2⟩ := h
  refine ⟨h1, ?_⟩
  rcases h2 with ⟨rfl, hn⟩ | ⟨g, cap, cur, rfl, hb, hg, hnc, hcm, hcs, htake⟩
  · exact .inl ⟨rfl, hn⟩
  · exact .inr ⟨g, cap, cur, rfl, hb, (hk g rfl).trans hg, hnc, hcm, hcs, htake⟩
theorem below_grown {w w' : World} (h : Below w.heap.size w w') (ob : Option Nat) : w.grownBy w' ob := ⟨h.os, h.tape, h.output, h.size, fun k hk _ => h.block k hk⟩
structure S3 (w : World) (base : Nat) (v0 : Value) (s : St) (e : Ev) (v : Value) (x : World) : Prop where
  st : StAt x w.heap.size s v
  ev : EvAt x (w.heap.size + 1) e
  res : StAt x (w.heap.size + 2) zeroS (.slice none 0 0)
  row : OwnL x base v s.lines
  gr : w.grownBy x v0.ownBlock
theorem s3_new (w : World) (base : Nat) (s : St) (e : Ev) (v : Value) (ho : OwnL w base v s.lines) : ∃ W, ((w.alloc (.cells (stA s v) 25)).alloc (.cells (evA e) 28)).alloc (.cells #[.int .i64 0, .int .i64 0, .int .i64 0, .int .i64 0, .int .i64 0, .slice none 0 0, .int .i64 0, .int .i64 0, .int .i64 0, .int .i64 0, .int .i64 0, .string ⟨#[]⟩] 25) = W ∧ S3 w base v s e v W := by
  refine ⟨_, rfl, ?_⟩
  have b3 : Below w.heap.size w (((w.alloc (.cells (stA s v) 25)).alloc (.cells (evA e) 28)).alloc (.cells (stA zeroS (.slice none 0 0)) 25)) := (((Below.refl _ _).alloc (Nat.le_refl _) _).alloc (by simp) _).alloc (by simp; omega) _
  refine ⟨?_, ?_, ?_, ho.keep b3, below_grown b3 _⟩
  · exact ((StAt.new w s v).after ((Below.refl _ _).alloc (Nat.le_refl _) _)).after ((Below.refl _ _).alloc (Nat.le_refl _) _)
  · have := (evAt_new (w.alloc (.cells (stA s v) 25)) e).after ((Below.refl _ _).alloc (Nat.le_refl _) (.cells (stA zeroS (.slice none 0 0)) 25))
    simp only [World.alloc, Array.size_push] at this
    exact this
  · have := StAt.new ((w.alloc (.cells (stA s v) 25)).alloc (.cells (evA e) 28)) zeroS (.slice none 0 0)
    simp only [World.alloc, Array.size_push] at this
    exact this
theorem S3.drew {w : World} {base : Nat} {v0 : Value} {s : St} {e : Ev} {v : Value} {x : World} (h : S3 w base v0 s e v x) : S3 w base v0 s e v x.drew := ⟨h.st, h.ev, h.res, h.row, h.gr.os, h.gr.tape, h.gr.output, h.gr.size, h.gr.block⟩
theorem S3.keep {w : World} {base : Nat} {v0 : Value} {s : St} {e : Ev} {v : Value} {x y : World} (h : S3 w base v0 s e v x) (hb : Below x.heap.size x y) : S3 w base v0 s e v y :=
  ⟨h.st.after hb, h.ev.after hb, h.res.after hb, h.row.keep hb, ⟨hb.os.trans h.gr.os, hb.tape.trans h.gr.tape, hb.output.trans h.gr.output, Nat.le_trans h.gr.size hb.size, fun k hk hne => (hb.block k (Nat.lt_of_lt_of_le hk h.gr.size)).trans (h.gr.block k hk hne)⟩⟩
theorem grown_set {w x : World} {ob : Option Nat} (h : w.grownBy x ob) (p : Addr) (u : Value) (hp : w.heap.size ≤ p.block) : w.grownBy (x.setCell p u) ob :=
  ⟨h.os, h.tape, h.output, by simpa [World.setCell] using h.size, fun k hk hne => (heap_setCell_other x p k u (by omega)).trans (h.block k hk hne)⟩
theorem St.setTo {x : World} {b : Nat} {s s2 : St} {v v2 : Value} (h : StAt x b s v) (i : Nat) (u : Value) (hs : (stA s v).setIfInBounds i u = stA s2 v2) : StAt (x.setCell ⟨b, i, none⟩ u) b s2 v2 := by
  unfold StAt at h ⊢
  rw [heap_setCell_same x b i _ _ _ h, hs]
theorem S3.set {w : World} {base : Nat} {v0 : Value} {s s2 : St} {e : Ev} {v : Value} {x : World} (h : S3 w base v0 s e v x) (i : Nat) (u : Value) (hs : (stA s v).setIfInBounds i u = stA s2 v) (hl : s2.lines = s.lines) : S3 w base v0 s2 e v (x.setCell ⟨w.heap.size, i, none⟩ u) := by
  refine ⟨St.setTo h.st i u hs, ?_, ?_, ?_, grown_set h.gr _ _ (Nat.le_refl _)⟩
  · exact (heap_setCell_other x ⟨w.heap.size, i, none⟩ (w.heap.size + 1) u (by show w.heap.size + 1 ≠ w.heap.size; omega)).trans h.ev
  · exact (heap_setCell_other x ⟨w.heap.size, i, none⟩ (w.heap.size + 2) u (by show w.heap.size + 2 ≠ w.heap.size; omega)).trans h.res
  · rw [hl]; exact h.row.setOther ⟨w.heap.size, i, none⟩ u (own_st_ne h.row h.st)
theorem S3.done {w : World} {base : Nat} {v0 : Value} {s : St} {e : Ev} {v : Value} {x y : World} (h : S3 w base v0 s e v x) (hz : ∀ k, k ≠ w.heap.size + 2 → y.heap[k]? = x.heap[k]?) (hb : ∀ B a, Below B a x → B ≤ w.heap.size + 2 → Below B a y) : OwnL y base v s.lines ∧ w.grownBy y v0.ownBlock := by
  have b1 := hb (w.heap.size + 2) x (Below.refl _ _) (Nat.le_refl _)
  refine ⟨h.row.keepOther (fun g hg => hz g (fun hh => ?_)), b1.os.trans h.gr.os, b1.tape.trans h.gr.tape, b1.output.trans h.gr.output, Nat.le_trans h.gr.size b1.size, fun k hk hne => (hz k (by omega)).trans (h.gr.block k hk hne)⟩
  subst hh
  exact own_st_ne h.row h.res hg.symm
theorem S3.froz {w : World} {base : Nat} {v0 : Value} {s : St} {e : Ev} {v : Value} {x : World} (h : S3 w base v0 s e v x) (i : Nat) : x.frozen? ⟨w.heap.size, i, none⟩ = false := h.st.froz i
def DoPost (s' : St) (x : World) (base : Nat) (v : Value) (r : Ending) (x' : World) : Prop := ∃ a n c, r = .returned (.agg (stA s' (.slice a n c))) ∧ OwnL x' base (.slice a n c) s'.lines ∧ x.grownBy x' v.ownBlock
def DoOk (g : Nat) (k : Int) : Prop := (∀ (a : Array Value) (x : World), (callFunc g a).run Tryz.prog x = .ok (.enter g a) x) ∧
  ∀ (x : World) (base : Nat) (s : St) (e : Ev) (a : Option Addr) (n cap : Nat), OwnL x base (.slice a n cap) s.lines → base ≤ x.heap.size → Vl s → Right 5 e → e.kind = k → stdR s k = 0 → refR s e = 0 →
    Calls Tryz.prog g #[.agg (stA s (.slice a n cap)), .agg (evA e)] x fun r x' => DoPost (doS s e) x base (.slice a n cap) r x'
end Go.Proofs.YtbpjlphjhjfdoaaGreat
namespace Go.Proofs.YtbpjlphjhjfdoaaGreat
open Go.ChangeShapes Go.WideShapes Go.ChangeAt Go.RowKit
set_option linter.unusedVariables false
set_option linter.unusedSimpArgs false
theorem cf_place (a : Array Value) (w : World) : (callFunc 36 a).run Tryz.prog w = .ok (.enter 36 a) w := by kernel_rfl
theorem cf_cancel (a : Array Value) (w : World) : (callFunc 48 a).run Tryz.prog w = .ok (.enter 48 a) w := by kernel_rfl
theorem cf_refund (a : Array Value) (w : World) : (callFunc 52 a).run Tryz.prog w = .ok (.enter 52 a) w := by kernel_rfl
theorem cf_hold (a : Array Value) (w : World) : (callFunc 53 a).run Tryz.prog w = .ok (.enter 53 a) w := by kernel_rfl
theorem cf_release (a : Array Value) (w : World) : (callFunc 54 a).run Tryz.prog w = .ok (.enter 54 a) w := by kernel_rfl
theorem cf_pay (a : Array Value) (w : World) : (callFunc 43 a).run Tryz.prog w = .ok (.enter 43 a) w := by kernel_rfl
set_option maxRecDepth 20000 in
set_option maxHeartbeats 4000000 in
theorem do_place : DoOk 36 1 := by
  refine ⟨cf_place, fun x base s e a n cap ho hb v hr hk hst hrf => ?_⟩
  rw [show doS s e = { s with status := 1, cur := e.cur, tax := e.tax } from by unfold doS; rw [if_pos hk]]
  obtain ⟨W, hW, H⟩ := s3_new x base s e _ ho
  have HS : Hid (S3 x base (.slice a n cap) s e (.slice a n cap) W) := H
  obtain ⟨c0, c1, c2, c3, c4, c5, c6, c7, c8, c9, c10, c11⟩ := H.st.cells
  obtain ⟨d0, d1, d2, d3, d4, d5, d6, d7, d8, d9⟩ := H.ev.cells10
  have f1 := H.froz 1
  have f3 := H.froz 3
  have f4 := H.froz 4
  clear H ho hb v hr hk hst hrf
  go_enter Tryz.func36, Tryz.ntmps36
  go_wp2
  go_region
  all_goals
    have H4 : S3 x base (.slice a n cap) { s with status := 1, cur := e.cur, tax := e.tax } e (.slice a n cap) (((W.drew.setCell ⟨x.heap.size, 1, none⟩ (.int .i64 1)).setCell ⟨x.heap.size, 3, none⟩ (.int .i64 e.cur)).setCell ⟨x.heap.size, 4, none⟩ (.int .i64 e.tax)) := (((HS.out.drew.set (s2 := { s with status := 1 }) 1 _ rfl rfl).set (s2 := { s with status := 1, cur := e.cur }) 3 _ rfl rfl).set 4 _ rfl rfl)
    have HS4 : Hid (S3 x base (.slice a n cap) { s with status := 1, cur := e.cur, tax := e.tax } e (.slice a n cap) (((W.drew.setCell ⟨x.heap.size, 1, none⟩ (.int .i64 1)).setCell ⟨x.heap.size, 3, none⟩ (.int .i64 e.cur)).setCell ⟨x.heap.size, 4, none⟩ (.int .i64 e.tax))) := H4
    clear H4
    go_wp2_with (first
      | ((with_reducible refine guard_load 25 ?_); refine wpList_load_st rfl _ rfl HS4.out.st rfl ?_)
      | ((with_reducible refine guard_store 25 ?_); refine wpList_store_st (s := zeroS) (s2 := { s with status := 1, cur := e.cur, tax := e.tax }) (a2 := a) (n2 := n) (c2 := cap) rfl _ _ rfl HS4.out.res rfl rfl ?_; intro y z1 z2 z3 z4))
    have HZ := HS4.out.done z3 z2
    exact bodyPost_ret (results_st1 rfl _ _ _ rfl z1) rfl ⟨a, n, cap, rfl, HZ.1, HZ.2⟩
set_option maxRecDepth 20000 in
set_option maxHeartbeats 4000000 in
theorem do_cancel : DoOk 48 5 := by
  refine ⟨cf_cancel, fun x base s e a n cap ho hb v hr hk hst hrf => ?_⟩
  rw [show doS s e = { s with status := 5, prior := 0 } from by unfold doS; rw [if_neg (by omega), if_neg (by omega), if_neg (by omega), if_neg (by omega), if_pos hk]]
  obtain ⟨W, hW, H⟩ := s3_new x base s e _ ho
  obtain ⟨c0, c1, c2, c3, c4, c5, c6, c7, c8, c9, c10, c11⟩ := H.st.cells
  have f1 := H.froz 1
  have f2 := H.froz 2
  have HS4 : Hid (S3 x base (.slice a n cap) { s with status := 5, prior := 0 } e (.slice a n cap) ((W.setCell ⟨x.heap.size, 1, none⟩ (.int .i64 5)).setCell ⟨x.heap.size, 2, none⟩ (.int .i64 0))) := ((H.set (s2 := { s with status := 5 }) 1 _ rfl rfl).set 2 _ rfl rfl)
  clear H ho hb v hr hk hst hrf
  go_enter Tryz.func48, Tryz.ntmps48
  go_wp2_with (first
    | ((with_reducible refine guard_load 25 ?_); refine wpList_load_st rfl _ rfl HS4.out.st rfl ?_)
    | ((with_reducible refine guard_store 25 ?_); refine wpList_store_st (s := zeroS) (s2 := { s with status := 5, prior := 0 }) (a2 := a) (n2 := n) (c2 := cap) rfl _ _ rfl HS4.out.res rfl rfl ?_; intro y z1 z2 z3 z4))
  have HZ := HS4.out.done z3 z2
  exact bodyPost_ret (results_st1 rfl _ _ _ rfl z1) rfl ⟨a, n, cap, rfl, HZ.1, HZ.2⟩
set_option maxRecDepth 20000 in
set_option maxHeartbeats 4000000 in
theorem do_hold : DoOk 53 8 := by
  refine ⟨cf_hold, fun x base s e a n cap ho hb v hr hk hst hrf => ?_⟩
  rw [show doS s e = { s with status := 2, prior := s.status } from by unfold doS; rw [if_neg (by omega), if_neg (by omega), if_neg (by omega), if_neg (by omega), if_neg (by omega), if_neg (by omega), if_neg (by omega), if_pos hk]]
  obtain ⟨W, hW, H⟩ := s3_new x base s e _ ho
  obtain ⟨c0, c1, c2, c3, c4, c5, c6, c7, c8, c9, c10, c11⟩ := H.st.cells
  have f1 := H.froz 1
  have f2 := H.froz 2
  have HS4 : Hid (S3 x base (.slice a n cap) { s with status := 2, prior := s.status } e (.slice a n cap) ((W.setCell ⟨x.heap.size, 1, none⟩ (.int .i64 2)).setCell ⟨x.heap.size, 2, none⟩ (.int .i64 s.status))) := ((H.set (s2 := { s with status := 2 }) 1 _ rfl rfl).set 2 _ rfl rfl)
  clear H ho hb v hr hk hst hrf
  go_enter Tryz.func53, Tryz.ntmps53
  go_wp2_with (first
    | ((with_reducible refine guard_load 25 ?_); refine wpList_load_st rfl _ rfl HS4.out.st rfl ?_)
    | ((with_reducible refine guard_store 25 ?_); refine wpList_store_st (s := zeroS) (s2 := { s with status := 2, prior := s.status }) (a2 := a) (n2 := n) (c2 := cap) rfl _ _ rfl HS4.out.res rfl rfl ?_; intro y z1 z2 z3 z4))
  have HZ := HS4.out.done z3 z2
  exact bodyPost_ret (results_st1 rfl _ _ _ rfl z1) rfl ⟨a, n, cap, rfl, HZ.1, HZ.2⟩
set_option maxRecDepth 20000 in
set_option maxHeartbeats 4000000 in
theorem do_release : DoOk 54 9 := by
  refine ⟨cf_release, fun x base s e a n cap ho hb v hr hk hst hrf => ?_⟩
  rw [show doS s e = { s with status := s.prior, prior := 0 } from by unfold doS; rw [if_neg (by omega), if_neg (by omega), if_neg (by omega), if_neg (by omega), if_neg (by omega), if_neg (by omega), if_neg (by omega), if_neg (by omega), if_pos hk]]
  obtain ⟨W, hW, H⟩ := s3_new x base s e _ ho
  obtain ⟨c0, c1, c2, c3, c4, c5, c6, c7, c8, c9, c10, c11⟩ := H.st.cells
  have f1 := H.froz 1
  have f2 := H.froz 2
  have HS4 : Hid (S3 x base (.slice a n cap) { s with status := s.prior, prior := 0 } e (.slice a n cap) ((W.setCell ⟨x.heap.size, 1, none⟩ (.int .i64 s.prior)).setCell ⟨x.heap.size, 2, none⟩ (.int .i64 0))) := ((H.set (s2 := { s with status := s.prior }) 1 _ rfl rfl).set 2 _ rfl rfl)
  clear H ho hb v hr hk hst hrf
  go_enter Tryz.func54, Tryz.ntmps54
  go_wp2_with (first
    | ((with_reducible refine guard_load 25 ?_); refine wpList_load_st rfl _ rfl HS4.out.st rfl ?_)
    | ((with_reducible refine guard_store 25 ?_); refine wpList_store_st (s := zeroS) (s2 := { s with status := s.prior, prior := 0 }) (a2 := a) (n2 := n) (c2 := cap) rfl _ _ rfl HS4.out.res rfl rfl ?_; intro y z1 z2 z3 z4))
  have HZ := HS4.out.done z3 z2
  exact bodyPost_ret (results_st1 rfl _ _ _ rfl z1) rfl ⟨a, n, cap, rfl, HZ.1, HZ.2⟩
set_option maxRecDepth 20000 in
set_option maxHeartbeats 4000000 in
theorem do_refund : DoOk 52 7 := by
  refine ⟨cf_refund, fun x base s e a n cap ho hb v hr hk hst hrf => ?_⟩
  rw [show doS s e = { s with refunded := s.refunded + e.price } from by unfold doS; rw [if_neg (by omega), if_neg (by omega), if_neg (by omega), if_neg (by omega), if_neg (by omega), if_neg (by omega), if_pos hk]]
  obtain ⟨W, hW, H⟩ := s3_new x base s e _ ho
  obtain ⟨c0, c1, c2, c3, c4, c5, c6, c7, c8, c9, c10, c11⟩ := H.st.cells
  obtain ⟨d0, d1, d2, d3, d4, d5, d6, d7, d8, d9⟩ := H.ev.cells10
  have f7 := H.froz 7
  have g1 := v.f1
  have g2 : s.refunded ≤ 240000000000000 := by have := (vld_due (vl_to v)); omega
  have g3 := hr.price0
  have g4 : e.price ≤ 100000000 := by have := hr.price1; simpa [hiP] using this
  have HS4 : Hid (S3 x base (.slice a n cap) { s with refunded := s.refunded + e.price } e (.slice a n cap) (W.setCell ⟨x.heap.size, 7, none⟩ (.int .i64 (s.refunded + e.price)))) := H.set 7 _ rfl rfl
  clear H ho hb v hr hk hst hrf
  go_enter Tryz.func52, Tryz.ntmps52
  go_wp2_with (first
    | ((with_reducible refine guard_load 25 ?_); refine wpList_load_st rfl _ rfl HS4.out.st rfl ?_)
    | ((with_reducible refine guard_store 25 ?_); refine wpList_store_st (s := zeroS) (s2 := { s with refunded := s.refunded + e.price }) (a2 := a) (n2 := n) (c2 := cap) rfl _ _ rfl HS4.out.res rfl rfl ?_; intro y z1 z2 z3 z4))
  have HZ := HS4.out.done z3 z2
  exact bodyPost_ret (results_st1 rfl _ _ _ rfl z1) rfl ⟨a, n, cap, rfl, HZ.1, HZ.2⟩
set_option maxRecDepth 20000 in
set_option maxHeartbeats 4000000 in
theorem do_pay : DoOk 43 3 := by
  refine ⟨cf_pay, fun x base s e a n cap ho hb v hr hk hst hrf => ?_⟩
  rw [show doS s e = payS s e from by unfold doS; rw [if_neg (by omega), if_neg (by omega), if_pos hk]]
  obtain ⟨W, hW, H⟩ := s3_new x base s e _ ho
  obtain ⟨c0, c1, c2, c3, c4, c5, c6, c7, c8, c9, c10, c11⟩ := H.st.cells
  obtain ⟨d0, d1, d2, d3, d4, d5, d6, d7, d8, d9⟩ := H.ev.cells10
  have f6 := H.froz 6
  have g1 := v.p1
  have g2 : s.paid ≤ 240000000000000 := by have := (vld_due (vl_to v)); omega
  have g3 := hr.price0
  have g4 : e.price ≤ 100000000 := by have := hr.price1; simpa [hiP] using this
  obtain ⟨s1, hs1⟩ : ∃ s1 : St, { s with paid := s.paid + e.price } = s1 := ⟨_, rfl⟩
  have hlen : s1.lines.length = n := by
    obtain ⟨a2, c2, hv, _⟩ := ho.shape
    cases hv; rw [← hs1]
  have HN : Hid (s1.lines.length = n) := hlen
  have HLB : Hid (linesB s1.lines = true ∧ 0 ≤ s1.tax ∧ s1.tax ≤ 5000) := by rw [← hs1]; exact ⟨v.lines, v.t1, v.t2⟩
  have HS4 : Hid (S3 x base (.slice a n cap) s1 e (.slice a n cap) (W.setCell ⟨x.heap.size, 6, none⟩ (.int .i64 (s.paid + e.price)))) := by rw [← hs1]; exact H.set 6 _ rfl rfl
  have hP : payS s e = { s1 with status := if paidB s1 = true then 3 else s1.status } := by rw [← hs1]; rfl
  obtain ⟨P, hPP⟩ : ∃ P, paidB s1 = P := ⟨_, rfl⟩
  have HP : Hid (paidB s1 = P) := hPP
  rw [hP, hPP]
  clear H ho hb v hr hk hst hrf hs1 hlen hP hPP
  cases P
  · rw [if_neg (by simp)]
    go_enter Tryz.func43, Tryz.ntmps43
    go_wp2_with (first
      | (go_at_call 62; refine (paidUp_any s1 a n cap _ HN.out (ownl_lns HS4.out.row) HLB.out.1 HLB.out.2.1 HLB.out.2.2).mono ?_; rw [HP.out]; rintro _ y1 ⟨rfl, hb1⟩; have HS5 : Hid (S3 x base (.slice a n cap) s1 e (.slice a n cap) y1) := HS4.out.keep hb1; clear hb1)
      | ((with_reducible refine guard_load 25 ?_); first | refine wpList_load_st rfl _ rfl HS5.out.st rfl ?_ | refine wpList_load_st rfl _ rfl HS4.out.st rfl ?_)
      | ((with_reducible refine guard_store 25 ?_); refine wpList_store_st (s := zeroS) (s2 := s1) (a2 := a) (n2 := n) (c2 := cap) rfl _ _ rfl HS5.out.res rfl rfl ?_; intro y z1 z2 z3 z4))
    have HZ := HS5.out.done z3 z2
    exact bodyPost_ret (results_st1 rfl _ _ _ rfl z1) rfl ⟨a, n, cap, rfl, HZ.1, HZ.2⟩
  · rw [if_pos rfl]
    go_enter Tryz.func43, Tryz.ntmps43
    go_wp2_with (first
      | (go_at_call 62; refine (paidUp_any s1 a n cap _ HN.out (ownl_lns HS4.out.row) HLB.out.1 HLB.out.2.1 HLB.out.2.2).mono ?_; rw [HP.out]; rintro _ y1 ⟨rfl, hb1⟩; have h5 : S3 x base (.slice a n cap) s1 e (.slice a n cap) y1 := HS4.out.keep hb1; have q1 := h5.st.cell 1 (.int .i64 s1.status) rfl; have q2 := h5.froz 1; have HS5 : Hid (S3 x base (.slice a n cap) { s1 with status := 3 } e (.slice a n cap) (y1.setCell ⟨x.heap.size, 1, none⟩ (.int .i64 3))) := h5.set 1 _ rfl rfl; clear hb1 h5)
      | ((with_reducible refine guard_load 25 ?_); first | refine wpList_load_st rfl _ rfl HS5.out.st rfl ?_ | refine wpList_load_st rfl _ rfl HS4.out.st rfl ?_)
      | ((with_reducible refine guard_store 25 ?_); refine wpList_store_st (s := zeroS) (s2 := { s1 with status := 3 }) (a2 := a) (n2 := n) (c2 := cap) rfl _ _ rfl HS5.out.res rfl rfl ?_; intro y z1 z2 z3 z4))
    have HZ := HS5.out.done z3 z2
    exact bodyPost_ret (results_st1 rfl _ _ _ rfl z1) rfl ⟨a, n, cap, rfl, HZ.1, HZ.2⟩
end Go.Proofs.YtbpjlphjhjfdoaaGreat
namespace Go.Proofs.YtbpjlphjhjfdoaaGreat
open Go.ChangeShapes Go.WideShapes Go.ChangeAt Go.RowKit
set_option linter.unusedVariables false
set_option linter.unusedSimpArgs false
theorem cf_ship (a : Array Value) (w : World) : (callFunc 46 a).run Tryz.prog w = .ok (.enter 46 a) w := by kernel_rfl
theorem cf_clearUp (a : Array Value) (w : World) : (callFunc 55 a).run Tryz.prog w = .ok (.enter 55 a) w := by kernel_rfl
def turnL (p : Ln) (j : Nat) (x : Int) : Ln := if j = 0 then { p with item := x } else if j = 1 then { p with price := x } else if j = 2 then { p with qty := x } else { p with shipped := x }
theorem lfl_set : ∀ (L : List Ln) (i j : Nat) (p : Ln) (x : Int), L[i]? = some p → j < 4 → lfl (L.set i (turnL p j x)) = (lfl L).set (i * 4 + j) (.int .i64 x)
  | [], i, j, p, x, h, hj => by simp at h
  | q :: r, 0, j, p, x, h, hj => by
    simp at h; subst h
    have hj' : j = 0 ∨ j = 1 ∨ j = 2 ∨ j = 3 := by omega
    rcases hj' with rfl | rfl | rfl | rfl <;> simp [lfl, turnL]
  | q :: r, i + 1, j, p, x, h, hj => by
    rw [show (i + 1) * 4 + j = (i * 4 + j) + 4 from by omega]
    simp only [List.set_cons_succ, lfl]
    rw [lfl_set r i j p x (by simpa using h) hj]
theorem OwnL.turn {w : World} {base g n cap : Nat} {L : List Ln} (h : OwnL w base (.slice (some ⟨g, 0, none⟩) n cap) L) (i j : Nat) (p : Ln) (x : Int) (hp : L[i]? = some p) (hj : j < 4) : OwnL (w.setCell ⟨g, i * 4 + j, none⟩ (.int .i64 x)) base (.slice (some ⟨g, 0, none⟩) n cap) (L.set i (turnL p j x)) := by
  have hi := ln_lt hp
  obtain ⟨h1, h2⟩ := h
  rcases h2 with ⟨hv, hn⟩ | ⟨g2, cap2, cur, hv, hb, hg, hnc, hcm, hcs, htake⟩
  · cases hv
  · injection hv with e1 e2 e3
    injection e1 with e1
    injection e1 with e1 _ _
    subst e1 e2 e3
    unfold OwnL
    rw [List.length_set]
    refine ⟨by rw [lfl_length, List.length_set], .inr ⟨g, cap, cur.setIfInBounds (i * 4 + j) (.int .i64 x), rfl, hb, heap_setCell_same w g _ _ _ _ hg, hnc, hcm, by simpa using hcs, ?_⟩⟩
    rw [lfl_set L i j p x hp hj, ← htake, Array.toList_setIfInBounds, List.take_set]
theorem S3.turn {w : World} {base : Nat} {v0 : Value} {s : St} {e : Ev} {g n cap : Nat} {x : World} (h : S3 w base v0 s e (.slice (some ⟨g, 0, none⟩) n cap) x) (i j : Nat) (p : Ln) (y : Int) (hp : s.lines[i]? = some p) (hj : j < 4) (hg : v0.ownBlock = some g ∨ w.heap.size ≤ g) :
    S3 w base v0 { s with lines := s.lines.set i (turnL p j y) } e (.slice (some ⟨g, 0, none⟩) n cap) (x.setCell ⟨g, i * 4 + j, none⟩ (.int .i64 y)) := by
  have n1 : w.heap.size ≠ g := fun hh => own_st_ne h.row h.st (by simp [Value.ownBlock, hh])
  have n2 : w.heap.size + 1 ≠ g := fun hh => own_ev_ne h.row h.ev (by simp [Value.ownBlock, hh])
  have n3 : w.heap.size + 2 ≠ g := fun hh => own_st_ne h.row h.res (by simp [Value.ownBlock, hh])
  refine ⟨(heap_setCell_other x ⟨g, i * 4 + j, none⟩ _ _ n1).trans h.st, (heap_setCell_other x ⟨g, i * 4 + j, none⟩ _ _ n2).trans h.ev, (heap_setCell_other x ⟨g, i * 4 + j, none⟩ _ _ n3).trans h.res, h.row.turn i j p y hp hj, h.gr.os, h.gr.tape, h.gr.output, by simpa [World.setCell] using h.gr.size, fun k hk hne => (heap_setCell_other x ⟨g, i * 4 + j, none⟩ k _ (fun hh => ?_)).trans (h.gr.block k hk hne)⟩
  subst hh
  rcases hg with hg | hg
  · exact hne hg.symm
  · exact absurd hk (by simpa using hg)
theorem OwnL.block {w : World} {base n cap : Nat} {a : Option Addr} {L : List Ln} {i : Nat} {p : Ln} (h : OwnL w base (.slice a n cap) L) (hp : L[i]? = some p) : ∃ g, a = some ⟨g, 0, none⟩ ∧ n ≤ cap ∧ cap ≤ maxLen ∧ (∀ j, w.frozen? ⟨g, j, none⟩ = false) ∧ g < w.heap.size := by
  have hi := ln_lt hp
  obtain ⟨h1, h2⟩ := h
  rcases h2 with ⟨hv, hn⟩ | ⟨g2, cap2, cur, hv, hb, hg, hnc, hcm, hcs, htake⟩
  · omega
  · injection hv with e1 e2 e3
    subst e1 e2 e3
    exact ⟨g2, rfl, hnc, hcm, fun j => frozen_of_row w g2 j _ _ hg, lt_of_heap hg⟩
theorem OwnL.cells {w : World} {base g n cap : Nat} {L : List Ln} {i : Nat} {p : Ln} (h : OwnL w base (.slice (some ⟨g, 0, none⟩) n cap) L) (hp : L[i]? = some p) : w.cell? ⟨g, i * 4, none⟩ = some (.int .i64 p.item) ∧ w.cell? ⟨g, i * 4 + 1, none⟩ = some (.int .i64 p.price) ∧ w.cell? ⟨g, i * 4 + 2, none⟩ = some (.int .i64 p.qty) ∧ w.cell? ⟨g, i * 4 + 3, none⟩ = some (.int .i64 p.shipped) := by
  obtain ⟨b, off, hb, _, k0, k1, k2, k3⟩ := (ownl_lns h).cells i p hp
  cases hb
  simp only [Nat.zero_add] at k0 k1 k2 k3
  exact ⟨k0, k1, k2, k3⟩
theorem frozen_own {w : World} {base g n cap : Nat} {L : List Ln} (h : OwnL w base (.slice (some ⟨g, 0, none⟩) n cap) L) (j : Nat) : w.frozen? ⟨g, j, none⟩ = false := by obtain ⟨_, _, cur, hc⟩ := h.ob g rfl; exact frozen_of_row w g j _ _ hc
theorem OwnL.len {w : World} {base n cap : Nat} {a : Option Addr} {L : List Ln} (h : OwnL w base (.slice a n cap) L) : L.length = n := by
  obtain ⟨a2, c2, hv, _⟩ := h.shape
  cases hv; rfl
set_option maxRecDepth 20000 in
set_option maxHeartbeats 4000000 in
theorem do_ship : DoOk 46 4 := by
  refine ⟨cf_ship, fun x base s e a n cap ho hb v hr hk hst hrf => ?_⟩
  have hR : ∃ p, lnAt s.lines e.item = some p ∧ e.qty ≤ p.qty - p.shipped := by
    unfold refR at hrf
    rw [if_neg (by omega), if_neg (by omega), if_pos hk] at hrf
    unfold refTake at hrf
    split at hrf
    · omega
    · split at hrf
      · rename_i q hq
        refine ⟨q, hq, ?_⟩
        simp only at hrf
        split at hrf <;> omega
      · omega
  obtain ⟨p, hp, hq⟩ := hR
  rw [show doS s e = shipS s e from by unfold doS; rw [if_neg (by omega), if_neg (by omega), if_neg (by omega), if_pos hk]]
  obtain ⟨g1, g2⟩ := lnAt_some hp
  obtain ⟨h16, hrise⟩ := linesB_from v.lines
  have fp := (linesB_facts v.lines).2 _ _ g1
  have q0 : 0 ≤ e.qty := by have := hr.qty0; simpa [loQ] using this
  have hsl : shipL s.lines e = s.lines.set (lbI s.lines e.item) (turnL p 3 (p.shipped + e.qty)) := by unfold shipL; rw [hp]; rfl
  obtain ⟨LB, hLB⟩ : ∃ LB, lbI s.lines e.item = LB := ⟨_, rfl⟩
  rw [hLB] at g1 hsl
  have hlen := ho.len
  obtain ⟨g, rfl, hnc, hcm, hfz, hglt⟩ := ho.block g1
  obtain ⟨W, hW, H⟩ := s3_new x base s e _ ho
  have HS : Hid (S3 x base (.slice (some ⟨g, 0, none⟩) n cap) s e (.slice (some ⟨g, 0, none⟩) n cap) W) := H
  have c5 := H.st.cell 5 (.slice (some ⟨g, 0, none⟩) n cap) rfl
  have d2 := H.ev.cell 2 (.int .i64 e.item) rfl
  have hLn : LB < n := by have := ln_lt g1; omega
  have hn16 : n ≤ 16 := by omega
  have HF : Hid (lbI s.lines e.item = LB ∧ lnAt s.lines e.item = some p) := ⟨hLB, hp⟩
  have HN : Hid (s.lines.length = n) := hlen
  have HRI : Hid (linesFrom (-1) s.lines = true) := hrise
  have HG1 : Hid (s.lines[LB]? = some p) := g1
  have b1 : 0 ≤ p.shipped := by omega
  have b2 : p.shipped ≤ 100000 := by omega
  have b3 : e.qty ≤ 100000 := by omega
  obtain ⟨s1, hs1⟩ : ∃ s1 : St, { s with lines := s.lines.set LB (turnL p 3 (p.shipped + e.qty)) } = s1 := ⟨_, rfl⟩
  have HS1 : Hid ({ s with lines := s.lines.set LB (turnL p 3 (p.shipped + e.qty)) } = s1) := hs1
  have HN1 : Hid (s1.lines.length = n) := by show s1.lines.length = n; rw [← hs1]; simpa using hlen
  have hP : shipS s e = { s1 with status := if wholeB s1.lines = true then 4 else s1.status } := by unfold shipS; rw [hsl, ← hs1]
  obtain ⟨P, hPP⟩ : ∃ P, wholeB s1.lines = P := ⟨_, rfl⟩
  have HP : Hid (wholeB s1.lines = P) := hPP
  rw [hP, hPP]
  have hmx : n ≤ maxLen := by unfold maxLen; omega
  clear H ho hb v hr hk hst hrf hs1 hlen hP hPP hp hq g1 g2 h16 hrise fp hsl hLB hcm hfz hglt
  cases P
  · rw [if_neg (by simp)]
    go_enter Tryz.func46, Tryz.ntmps46
    go_wp2_with (first
      | (go_at_call 77; refine (find_any s.lines _ n cap e.item _ HN.out (ownl_lns HS.out.row) hn16 HRI.out).mono ?_; rw [HF.out.1, HF.out.2]; rintro _ y1 ⟨rfl, hb1⟩; have h2 : S3 x base (.slice (some ⟨g, 0, none⟩) n cap) s e (.slice (some ⟨g, 0, none⟩) n cap) y1 := HS.out.keep hb1; have c5' := h2.st.cell 5 (.slice (some ⟨g, 0, none⟩) n cap) rfl; have d3' := h2.ev.cell 3 (.int .i64 e.qty) rfl; obtain ⟨k0, k1, k2, k3⟩ := h2.row.cells HG1.out; have kf := frozen_own h2.row (LB * 4 + 3); have HS2 : Hid (S3 x base (.slice (some ⟨g, 0, none⟩) n cap) s e (.slice (some ⟨g, 0, none⟩) n cap) y1) := h2; clear hb1 h2))
    go_region
    all_goals
      have h3 : S3 x base (.slice (some ⟨g, 0, none⟩) n cap) s1 e (.slice (some ⟨g, 0, none⟩) n cap) (y1.drew.setCell ⟨g, LB * 4 + 3, none⟩ (.int .i64 (p.shipped + e.qty))) := HS1.out ▸ (HS2.out.drew.turn LB 3 p (p.shipped + e.qty) HG1.out (by omega) (.inl rfl))
      have HS3 : Hid (S3 x base (.slice (some ⟨g, 0, none⟩) n cap) s1 e (.slice (some ⟨g, 0, none⟩) n cap) (y1.drew.setCell ⟨g, LB * 4 + 3, none⟩ (.int .i64 (p.shipped + e.qty)))) := h3
      clear h3
      go_wp2_with (first
        | (go_at_call 63; refine (whole_any s1 _ n cap _ HN1.out (ownl_lns HS3.out.row) hmx).mono ?_; rw [HP.out]; rintro _ y2 ⟨rfl, hb2⟩; have HS5 : Hid (S3 x base (.slice (some ⟨g, 0, none⟩) n cap) s1 e (.slice (some ⟨g, 0, none⟩) n cap) y2) := HS3.out.keep hb2; clear hb2)
        | ((with_reducible refine guard_load 25 ?_); first | refine wpList_load_st rfl _ rfl HS5.out.st rfl ?_ | refine wpList_load_st rfl _ rfl HS3.out.st rfl ?_)
        | ((with_reducible refine guard_store 25 ?_); refine wpList_store_st (s := zeroS) (s2 := s1) (a2 := some ⟨g, 0, none⟩) (n2 := n) (c2 := cap) rfl _ _ rfl HS5.out.res rfl rfl ?_; intro y z1 z2 z3 z4))
      have HZ := HS5.out.done z3 z2
      exact bodyPost_ret (results_st1 rfl _ _ _ rfl z1) rfl ⟨_, n, cap, rfl, HZ.1, HZ.2⟩
  · rw [if_pos rfl]
    go_enter Tryz.func46, Tryz.ntmps46
    go_wp2_with (first
      | (go_at_call 77; refine (find_any s.lines _ n cap e.item _ HN.out (ownl_lns HS.out.row) hn16 HRI.out).mono ?_; rw [HF.out.1, HF.out.2]; rintro _ y1 ⟨rfl, hb1⟩; have h2 : S3 x base (.slice (some ⟨g, 0, none⟩) n cap) s e (.slice (some ⟨g, 0, none⟩) n cap) y1 := HS.out.keep hb1; have c5' := h2.st.cell 5 (.slice (some ⟨g, 0, none⟩) n cap) rfl; have d3' := h2.ev.cell 3 (.int .i64 e.qty) rfl; obtain ⟨k0, k1, k2, k3⟩ := h2.row.cells HG1.out; have kf := frozen_own h2.row (LB * 4 + 3); have HS2 : Hid (S3 x base (.slice (some ⟨g, 0, none⟩) n cap) s e (.slice (some ⟨g, 0, none⟩) n cap) y1) := h2; clear hb1 h2))
    go_region
    all_goals
      have h3 : S3 x base (.slice (some ⟨g, 0, none⟩) n cap) s1 e (.slice (some ⟨g, 0, none⟩) n cap) (y1.drew.setCell ⟨g, LB * 4 + 3, none⟩ (.int .i64 (p.shipped + e.qty))) := HS1.out ▸ (HS2.out.drew.turn LB 3 p (p.shipped + e.qty) HG1.out (by omega) (.inl rfl))
      have HS3 : Hid (S3 x base (.slice (some ⟨g, 0, none⟩) n cap) s1 e (.slice (some ⟨g, 0, none⟩) n cap) (y1.drew.setCell ⟨g, LB * 4 + 3, none⟩ (.int .i64 (p.shipped + e.qty)))) := h3
      clear h3
      go_wp2_with (first
        | (go_at_call 63; refine (whole_any s1 _ n cap _ HN1.out (ownl_lns HS3.out.row) hmx).mono ?_; rw [HP.out]; rintro _ y2 ⟨rfl, hb2⟩; have h5 : S3 x base (.slice (some ⟨g, 0, none⟩) n cap) s1 e (.slice (some ⟨g, 0, none⟩) n cap) y2 := HS3.out.keep hb2; have q1 := h5.st.cell 1 (.int .i64 s1.status) rfl; have q2 := h5.froz 1; have HS5 : Hid (S3 x base (.slice (some ⟨g, 0, none⟩) n cap) { s1 with status := 4 } e (.slice (some ⟨g, 0, none⟩) n cap) (y2.setCell ⟨x.heap.size, 1, none⟩ (.int .i64 4))) := h5.set 1 _ rfl rfl; clear hb2 h5)
        | ((with_reducible refine guard_load 25 ?_); first | refine wpList_load_st rfl _ rfl HS5.out.st rfl ?_ | refine wpList_load_st rfl _ rfl HS3.out.st rfl ?_)
        | ((with_reducible refine guard_store 25 ?_); refine wpList_store_st (s := zeroS) (s2 := { s1 with status := 4 }) (a2 := some ⟨g, 0, none⟩) (n2 := n) (c2 := cap) rfl _ _ rfl HS5.out.res rfl rfl ?_; intro y z1 z2 z3 z4))
      have HZ := HS5.out.done z3 z2
      exact bodyPost_ret (results_st1 rfl _ _ _ rfl z1) rfl ⟨_, n, cap, rfl, HZ.1, HZ.2⟩
end Go.Proofs.YtbpjlphjhjfdoaaGreat
namespace Go.Proofs.YtbpjlphjhjfdoaaGreat
open Go.ChangeShapes Go.WideShapes Go.ChangeAt Go.RowKit
set_option linter.unusedVariables false
set_option linter.unusedSimpArgs false
theorem grown_below {w w' : World} {B : Nat} {ob : Option Nat} (h : w.grownBy w' ob) (hB : B ≤ w.heap.size) (ho : ∀ k, ob = some k → B ≤ k) : Below B w w' := (Below.refl _ _).grown h hB ho
set_option maxRecDepth 20000 in
set_option maxHeartbeats 1000000 in
theorem lnclone_any (L : List Ln) (a : Option Addr) (n cap : Nat) (w : World) (hn : L.length = n) (hl : Lns w a L) (hm : n * 32 ≤ 140737488351232) :
    Calls Tryz.prog 20 #[.slice a n cap] w fun r w' => ∃ a' c', r = .returned (.slice a' n c') ∧ OwnL w' w.heap.size (.slice a' n c') L ∧ Below w.heap.size w w' := by
  cases a with
  | none =>
    have hL : L = [] := by
      rcases hl with h | ⟨b, off, h, _⟩
      · exact h
      · cases h
    subst hL
    have hn0 : n = 0 := by simpa using hn.symm
    subst hn0
    clear hn hl hm
    have he := fun (y : World) => Lib.run_eql_slice_nil (P := Tryz.prog) y 23 36 none 0 cap 0 0 Tryz.underlying23
    go_enter Tryz.func20, Tryz.ntmps20
    go_wp2
    go_ret
    exact ⟨none, 0, rfl, OwnL.nil _ _, Below.refl _ _⟩
  | some ad =>
    obtain ⟨i0, hi, hz0, hz1, hz2⟩ := info_parts Tryz.infoLn
    have HN : Hid (L.length = n) := hn
    obtain ⟨W, hW⟩ : ∃ W, w.alloc (.cells #[] 36) = W := ⟨_, rfl⟩
    have hbW : Below w.heap.size w W := by rw [← hW]; exact (Below.refl _ _).alloc (Nat.le_refl _) _
    have hWs : w.heap.size ≤ W.heap.size := hbW.size
    have HOW : Hid (W.ownsRow w.heap.size 36 4 (.slice (some ⟨w.heap.size, 0, none⟩) 0 0) 0 []) := by rw [← hW]; exact OwnL.lit w
    have HBW : Hid (Below w.heap.size w W) := hbW
    have HNEW : Hid (∀ j u, (lfl L)[j]? = some u → W.cell? (ad.add j) = some u) := by
      intro j u hu
      have hl2 := hl.keep hbW
      rcases hl2 with h | ⟨b, off, h, _, h3⟩
      · subst h; simp [lfl] at hu
      · cases h
        have hj : j < L.length * 4 := by rw [← lfl_length]; exact ln_lt hu
        rw [Addr.add_lit]
        exact (h3 j hj).trans hu
    clear hn hl hbW
    have he := fun (y : World) => Lib.run_eql_slice_nil (P := Tryz.prog) y 23 36 (some ad) n cap 0 0 Tryz.underlying23
    go_enter Tryz.func20, Tryz.ntmps20
    go_wp2_with (at_builtin; refine wpList_append_own _ rfl _ _ 23 rfl w.heap.size 36 i0 _ 4 32 Tryz.underlying23 hi hz0 hz1 hz2 rfl (by decide) (.slice (some ⟨w.heap.size, 0, none⟩) 0 0) 0 [] rfl HOW.out ad n cap (lfl L) rfl (by rw [lfl_length, HN.out]) HNEW.out (lfl_one L) (by unfold maxLen; omega) (by omega) (by omega) ?_; intro v4 w4 ho4 hg4 hi4; have HO4 : Hid (OwnL w4 w.heap.size v4 L) := (show OwnL w4 w.heap.size v4 L from by unfold OwnL; rw [HN.out]; simpa using ho4); have HB4 : Hid (Below w.heap.size w w4) := HBW.out.trans (grown_below hg4 (by omega) (fun k hk => by simp [Value.ownBlock] at hk; omega)); clear ho4 hg4 hi4)
    go_ret
    obtain ⟨a4, c4, rfl, _⟩ := HO4.out.shape
    rw [HN.out] at HO4 ⊢
    exact ⟨a4, c4, rfl, HO4.out, HB4.out⟩
end Go.Proofs.YtbpjlphjhjfdoaaGreat
namespace Go.Proofs.YtbpjlphjhjfdoaaGreat
open Go.ChangeShapes Go.WideShapes Go.ChangeAt Go.RowKit
set_option linter.unusedVariables false
set_option linter.unusedSimpArgs false
theorem clr_len (L : List Ln) : (clrL L).length = L.length := by simp [clrL]
theorem clr_at {L : List Ln} {k : Nat} {p : Ln} (hp : L[k]? = some p) : (clrL (L.take k) ++ L.drop k)[k]? = some p := by
  have hk := ln_lt hp
  rw [List.getElem?_append_right (by rw [clr_len, List.length_take]; omega), clr_len, List.length_take, Nat.min_eq_left (by omega), Nat.sub_self, ln_drop L k p hp]
  rfl
theorem clr_step {L : List Ln} {k : Nat} {p : Ln} (hp : L[k]? = some p) : (clrL (L.take k) ++ L.drop k).set k (turnL p 3 p.qty) = clrL (L.take (k + 1)) ++ L.drop (k + 1) := by
  have hk := ln_lt hp
  rw [List.set_append_right _ _ (by rw [clr_len, List.length_take]; omega), clr_len, List.length_take, Nat.min_eq_left (by omega), Nat.sub_self, ln_drop L k p hp, ln_take L k p hp]
  simp [clrL, turnL]
set_option maxRecDepth 20000 in
set_option maxHeartbeats 4000000 in
theorem do_clearUp : DoOk 55 10 := by
  refine ⟨cf_clearUp, fun x base s e a n cap ho hb v hr hk hst hrf => ?_⟩
  rw [show doS s e = { s with lines := clrL s.lines, status := 4 } from by unfold doS; rw [if_neg (by omega), if_neg (by omega), if_neg (by omega), if_neg (by omega), if_neg (by omega), if_neg (by omega), if_neg (by omega), if_neg (by omega), if_neg (by omega)]]
  obtain ⟨h16, hrise⟩ := linesB_from v.lines
  have hlen := ho.len
  have hn16 : n ≤ 16 := by omega
  obtain ⟨W, hW, H⟩ := s3_new x base s e _ ho
  have HS : Hid (S3 x base (.slice a n cap) s e (.slice a n cap) W) := H
  have c5 := H.st.cell 5 (.slice a n cap) rfl
  have HN : Hid (s.lines.length = n) := hlen
  clear H ho hb v hr hk hst hrf hlen h16 hrise
  go_enter Tryz.func55, Tryz.ntmps55
  go_wp2
  go_loopw [10] (fun vi wr => ∃ (k : Nat), k ≤ n ∧ vi = .int .i64 k ∧ Hid (S3 x base (.slice a n cap) { s with lines := clrL (s.lines.take k) ++ s.lines.drop k } e (.slice a n cap) wr)) (fun vi _ => n - (intOf vi).toNat)
  case atStart => exact ⟨0, Nat.zero_le _, rfl, HS.out⟩
  case round =>
    clear HS c5 hW
    obtain ⟨k, hk, rfl, HI⟩ := hrel
    by_cases hkn : k < n
    · obtain ⟨p, hp⟩ := ln_get (L := s.lines) (k := k) (by rw [HN.out]; exact hkn)
      have hat := clr_at hp
      have hstep := clr_step hp
      obtain ⟨g, rfl, _⟩ := HI.out.row.block hat
      have kf := HI.out.row.cells hat
      obtain ⟨k0, k1, k2, k3⟩ := kf
      have HAL : Hid (S3 x base (.slice (some ⟨g, 0, none⟩) n cap) { s with lines := clrL (s.lines.take k) ++ s.lines.drop k } e (.slice (some ⟨g, 0, none⟩) n cap) (wr.alloc (.cells #[.int .i64 p.item, .int .i64 p.price, .int .i64 p.qty, .int .i64 p.shipped] 36))) := HI.out.keep ((Below.refl _ _).alloc (Nat.le_refl _) _)
      have q5 := HAL.out.st.cell 5 (.slice (some ⟨g, 0, none⟩) n cap) rfl
      obtain ⟨m0, m1, m2, m3⟩ := HAL.out.row.cells hat
      have mf := frozen_own HAL.out.row (k * 4 + 3)
      have HT : Hid (S3 x base (.slice (some ⟨g, 0, none⟩) n cap) { s with lines := clrL (s.lines.take (k + 1)) ++ s.lines.drop (k + 1) } e (.slice (some ⟨g, 0, none⟩) n cap) ((wr.setCell ⟨g, k * 4 + 3, none⟩ (.int .i64 p.qty)).alloc (.cells #[.int .i64 p.item, .int .i64 p.price, .int .i64 p.qty, .int .i64 p.shipped] 36))) := by
        have h := HI.out.turn k 3 p p.qty hat (by omega) (.inl rfl)
        simp only [hstep] at h
        exact h.keep ((Below.refl _ _).alloc (Nat.le_refl _) _)
      have hgl : g < wr.heap.size := by
        obtain ⟨_, h, _⟩ := HI.out.row.ob g rfl
        exact h
      have hgn : ¬ g = wr.heap.size := by omega
      have hgn2 : ¬ wr.heap.size = g := by omega
      clear hp hat hstep hgl
      go_wp2
      go_roundw
      case rel => exact ⟨k + 1, by omega, by go_num, HT.out⟩
      case measure => simp [intOf]; omega
    · obtain rfl : k = n := by omega
      have hI : S3 x base (.slice a k cap) { s with lines := clrL s.lines } e (.slice a k cap) wr := by
        have h := HI.out
        rw [List.take_of_length_le (by rw [HN.out]; exact Nat.le_refl _), List.drop_eq_nil_of_le (by rw [HN.out]; exact Nat.le_refl _), List.append_nil] at h
        exact h
      have q1 := hI.st.cell 1 (.int .i64 s.status) rfl
      have q2 := hI.froz 1
      have HS5 : Hid (S3 x base (.slice a k cap) { s with lines := clrL s.lines, status := 4 } e (.slice a k cap) (wr.setCell ⟨x.heap.size, 1, none⟩ (.int .i64 4))) := hI.set 1 _ rfl rfl
      clear hI
      go_wp2_with (first
        | ((with_reducible refine guard_load 25 ?_); refine wpList_load_st rfl _ rfl HS5.out.st rfl ?_)
        | ((with_reducible refine guard_store 25 ?_); refine wpList_store_st (s := zeroS) (s2 := { s with lines := clrL s.lines, status := 4 }) (a2 := a) (n2 := k) (c2 := cap) rfl _ _ rfl HS5.out.res rfl rfl ?_; intro y z1 z2 z3 z4))
      have HZ := HS5.out.done z3 z2
      exact bodyPost_ret (results_st1 rfl _ _ _ rfl z1) rfl ⟨_, k, cap, rfl, HZ.1, HZ.2⟩
end Go.Proofs.YtbpjlphjhjfdoaaGreat
